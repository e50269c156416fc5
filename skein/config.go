package skein

import (
	"slices"

	"skein/api"
)

func rightConfig(c api.Config) bool {
	if c.Limit < api.MinWindow || c.Limit > api.MaxWindow || len(c.Dicts) > api.MaxDicts {
		return false
	}
	for i, d := range c.Dicts {
		if !rightDict(d) || slices.Contains(dictIDs(c.Dicts[:i]), d.ID) {
			return false
		}
	}
	return true
}

func rightDict(d api.Dict) bool {
	return d.ID >= 0 && d.ID <= 255 && len(d.Content) >= 1 && len(d.Content) <= api.MaxDict
}

func dictIDs(dicts []api.Dict) []int {
	var ids []int
	for _, d := range dicts {
		ids = append(ids, d.ID)
	}
	return ids
}
