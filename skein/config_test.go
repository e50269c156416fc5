package skein_test

import (
	"math"
	"slices"
	"strings"
	"testing"

	"skein/api"
	"skein/skein"
)

func dicts(ids ...int) []api.Dict {
	var list []api.Dict
	for _, id := range ids {
		list = append(list, api.Dict{ID: id, Content: "content"})
	}
	return list
}

func TestNewOfWrongSettings(t *testing.T) {
	for _, c := range []struct {
		what   string
		config api.Config
	}{
		{"nothing set", api.Config{}},
		{"a limit of 1", api.Config{Limit: 1}},
		{"a limit below MinWindow", api.Config{Limit: 63}},
		{"a limit above MaxWindow", api.Config{Limit: 8193}},
		{"a limit below 0", api.Config{Limit: -64}},
		{"the least limit", api.Config{Limit: math.MinInt}},
		{"the greatest limit", api.Config{Limit: math.MaxInt}},
		{"a wrong limit beside right dictionaries", api.Config{Limit: 63, Dicts: dicts(1)}},
		{"one dictionary too many", api.Config{Limit: 64, Dicts: dicts(1, 2, 3, 4, 5)}},
		{"far too many dictionaries", api.Config{Limit: 64, Dicts: dicts(make([]int, 1000)...)}},
		{"an ID of -1", api.Config{Limit: 64, Dicts: dicts(-1)}},
		{"an ID of 256", api.Config{Limit: 64, Dicts: dicts(256)}},
		{"the least ID", api.Config{Limit: 64, Dicts: dicts(math.MinInt)}},
		{"the greatest ID", api.Config{Limit: 64, Dicts: dicts(math.MaxInt)}},
		{"an ID of 256 behind a right one", api.Config{Limit: 64, Dicts: dicts(0, 256)}},
		{"an ID twice", api.Config{Limit: 64, Dicts: dicts(7, 7)}},
		{"an ID of 0 twice", api.Config{Limit: 64, Dicts: dicts(0, 1, 2, 0)}},
		{"an ID twice, the last ones", api.Config{Limit: 64, Dicts: dicts(0, 1, 2, 2)}},
		{"an ID twice, of other bytes", api.Config{Limit: 64, Dicts: []api.Dict{{ID: 3, Content: "x"}, {ID: 3, Content: "y"}}}},
		{"a dictionary without bytes", api.Config{Limit: 64, Dicts: []api.Dict{{ID: 3}}}},
		{"the last dictionary without bytes", api.Config{Limit: 64, Dicts: append(dicts(1, 2), api.Dict{ID: 3})}},
		{"a dictionary of a byte too many", api.Config{Limit: 64, Dicts: []api.Dict{{ID: 3, Content: strings.Repeat("x", 257)}}}},
		{"letters that are fewer than their bytes", api.Config{Limit: 64, Dicts: []api.Dict{{ID: 3, Content: strings.Repeat("é", 129)}}}},
	} {
		if r, e := skein.New(c.config); r != nil || e != api.ErrConfig {
			t.Errorf("P6: %s: New = %v, %d, want nil and ErrConfig", c.what, r, e)
		}
		for _, s := range []string{"", "SKN1\x00\x19\x00abc", "wrong"} {
			if text, e := skein.Whole(c.config, s); text != "" || e != api.ErrConfig {
				t.Errorf("P6: %s: Whole(.., %q) = %q, %d, want nothing and ErrConfig", c.what, s, text, e)
			}
		}
	}
}

func TestNewOfRightSettings(t *testing.T) {
	longest := strings.Repeat("x", api.MaxDict)
	for _, c := range []api.Config{
		{Limit: 64},
		{Limit: 65},
		{Limit: 8191},
		{Limit: 8192},
		{Limit: 64, Dicts: []api.Dict{}},
		{Limit: 64, Dicts: dicts(0)},
		{Limit: 64, Dicts: dicts(255)},
		{Limit: 8192, Dicts: dicts(255, 0, 1, 254)},
		{Limit: 64, Dicts: []api.Dict{{ID: 1, Content: "x"}, {ID: 2, Content: longest}, {ID: 3, Content: "x"}, {ID: 0, Content: "\x00"}}},
	} {
		r := fresh(t, c)
		wantRead(t, r, 1, "", api.Wait)
		wantPlace(t, r, 0, 0, api.Wait)
	}
}

func TestNewLeavesTheSettingsAlone(t *testing.T) {
	room := dicts(1, 2, 3)
	want := slices.Clone(room)
	r := fresh(t, api.Config{Limit: 64, Dicts: room[:2]})
	if !slices.Equal(room, want) {
		t.Errorf("P2: New wrote into the dictionaries: %v", room)
	}
	room[0] = api.Dict{ID: 9, Content: "other"}
	room[1].ID = 1
	feed(t, r, "SKN1\x20\x02\x01\x00"+"SKN1\x20\x01\x01\x00")
	wantPlace(t, r, 0, 0, api.Wait)
	feed(t, r, "SKN1\x20\x09")
	wantPlace(t, r, 2, 0, api.ErrDict)
}

func TestReadersKnowNothingOfOneAnother(t *testing.T) {
	a := fresh(t, api.Config{Limit: 64, Dicts: dicts(1)})
	b := fresh(t, api.Config{Limit: 128, Dicts: dicts(2)})
	feed(t, a, "SKN1\x20\x01\x18\x00a")
	feed(t, b, "SKN1\x21\x02\x18\x00xy")
	feed(t, a, "bc")
	closeIt(t, b)
	wantRead(t, a, 9, "abc", api.OK)
	wantRead(t, a, 9, "", api.Wait)
	wantRead(t, b, 9, "", api.ErrShort)
	feed(t, a, "\x01\x00SKN1\x20\x02")
	wantPlace(t, a, 1, 0, api.ErrDict)
	wantPlace(t, b, 0, 0, api.ErrShort)
}
