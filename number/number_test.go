package number

import (
	"strings"
	"testing"

	"surveyor/api"
	"surveyor/bigint"
)

func TestCheck(t *testing.T) {
	nines := api.Int(strings.Repeat("9", api.MaxDigits))
	longest := api.Int(strings.Repeat("9", api.MaxLong))
	for a, wanted := range map[api.Int]api.Errno{
		"0": api.OK, "-1": api.OK, "12": api.OK, nines: api.OK, "-" + nines: api.OK,
		"": api.ErrForm, "-": api.ErrForm, "-0": api.ErrForm, "01": api.ErrForm, "x": api.ErrForm, nines + "x": api.ErrForm, "0" + longest: api.ErrForm,
		nines + "0": api.ErrLarge, "-" + nines + "0": api.ErrLarge, longest: api.ErrLarge, longest + "9": api.ErrLarge,
	} {
		if e := Check(a); e != wanted {
			t.Errorf("Check of %.110q: got %d, want %d", a, e, wanted)
		}
		if wanted != api.ErrForm && IsLong(a) != (wanted == api.ErrLarge) {
			t.Errorf("IsLong of %.110q: got %t", a, IsLong(a))
		}
	}
}

func TestSure(t *testing.T) {
	if sum := Sure(bigint.Add("2", "3")); sum != "5" {
		t.Errorf("Sure: got %s", sum)
	}
	if order := Sure(bigint.Compare("2", "3")); order != -1 {
		t.Errorf("Sure: got %d", order)
	}
}
