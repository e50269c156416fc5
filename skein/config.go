package skein

import (
	"slices"
	"strings"

	"skein/api"
)

func rightConfig(c api.Config) bool {
	if c.Limit < api.MinWindow || c.Limit > api.MaxWindow || len(c.Dicts) > api.MaxDicts {
		return false
	}
	for i, d := range c.Dicts {
		if !rightDict(d) || hasID(c.Dicts[:i], d.ID) {
			return false
		}
	}
	return true
}

func rightDict(d api.Dict) bool {
	return d.ID >= 0 && d.ID <= 255 && len(d.Content) >= 1 && len(d.Content) <= api.MaxDict
}

func hasID(dicts []api.Dict, id int) bool {
	return slices.ContainsFunc(dicts, func(d api.Dict) bool { return d.ID == id })
}

// copied gives dictionaries that share no room with the caller's, the texts neither.
func copied(dicts []api.Dict) []api.Dict {
	var own []api.Dict
	for _, d := range dicts {
		own = append(own, api.Dict{ID: d.ID, Content: strings.Clone(d.Content)})
	}
	return own
}
