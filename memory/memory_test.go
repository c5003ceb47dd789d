package memory

import (
	"fmt"
	"strings"
	"testing"

	"surveyor/api"
)

func TestCheck(t *testing.T) {
	nines := strings.Repeat("9", 100)
	for text, wanted := range map[string]api.Errno{
		"": api.OK, "0": api.OK, "0 -1 " + nines + " -" + nines: api.OK, "1 9" + nines: api.ErrLarge, "-9" + nines: api.ErrLarge, "0 -0": api.ErrForm, "x 9" + nines: api.ErrForm, "9" + nines + " x": api.ErrLarge,
	} {
		var numbers []api.Int
		for _, word := range strings.Fields(text) {
			numbers = append(numbers, api.Int(word))
		}
		if fault := Check(numbers); fault != wanted {
			t.Errorf("Check of %q: got %d, want %d", text, fault, wanted)
		}
	}
	if fault := Check([]api.Int{""}); fault != api.ErrForm {
		t.Errorf("Check of an empty number: got %d", fault)
	}
}

func TestStart(t *testing.T) {
	p := api.Proc{Params: 2, Vars: []string{"a", "b", "c"}, Arrays: []api.Array{{Name: "d", Len: 1}, {Name: "e", Len: 3}}}
	args := []api.Int{"7", "-8"}
	vars, arrays := Start(p, args)
	if got := fmt.Sprint(vars, arrays); got != "[7 -8 0] [[0] [0 0 0]]" {
		t.Errorf("Start: got %s", got)
	}
	p.Vars = p.Vars[:2]
	vars, _ = Start(p, args)
	vars[0] = "1"
	if args[0] != "7" {
		t.Errorf("Start has shared the arguments")
	}
}

func TestElement(t *testing.T) {
	array := []api.Int{"5", "6"}
	for index, wanted := range map[api.Int]bool{"0": true, "1": true, "2": false, "-1": false, "": false, "1048577": false, "18446744073709551616": false} {
		if place, found := Element(array, index); found != wanted || found != (place != nil) {
			t.Errorf("Element at %q: got %t", index, found)
		}
	}
	place, _ := Element(array, "1")
	if *place = "7"; array[1] != "7" {
		t.Errorf("Element is not the place")
	}
}
