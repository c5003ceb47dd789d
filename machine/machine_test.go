package machine

import (
	"fmt"
	"testing"

	"surveyor/api"
)

// config returns a configuration with a frame of each of the procedures of pair.
func config() api.Config {
	return api.Config{Frames: []api.Frame{{Vars: []api.Int{"7"}, Arrays: [][]api.Int{{"1", "2"}, {"3"}}}, {Proc: 1, Point: 1, Vars: []api.Int{"5", "6"}}}, Reads: 1}
}

// pair returns a machine of two procedures, of which the first one calls the second one.
func pair() Machine {
	x := api.Expr{Op: api.ExprVar}
	p := api.Program{Procs: []api.Proc{{Name: "f", Vars: []string{"r"}, Arrays: []api.Array{{Name: "a", Len: 2}, {Name: "b", Len: 1}}}, {Name: "g", Params: 1, Results: 1, Vars: []string{"x", "y"}}}}
	call := api.Edge{To: 1, Command: api.Command{Op: api.CmdCall, Proc: 1, Args: []api.Expr{x}, Results: []int{0}}}
	return New(p, []api.Graph{{Points: 2, Exit: 1, Edges: []api.Edge{call}}, {Points: 2, Exit: 1, Edges: []api.Edge{{To: 1, Command: api.Command{Op: api.CmdInput, Var: 1}}}}}, []api.Int{"8", "9"})
}

// TestMemory changes everything in copies, and in configurations behind steps.
func TestMemory(t *testing.T) {
	m, before, wanted := pair(), config(), fmt.Sprint(config())
	after, _ := m.Step(before)
	stuck := api.Config{Frames: []api.Frame{{Vars: []api.Int{"7"}, Point: 1}}}
	same, _ := m.Step(stuck)
	for _, c := range []api.Config{Copy(before), after, same} {
		for i := range c.Frames {
			for _, list := range append(c.Frames[i].Arrays, c.Frames[i].Vars) {
				list[0] = "77"
			}
			c.Frames[i].Proc = 9
		}
	}
	if got := fmt.Sprint(before); got != wanted {
		t.Errorf("the configuration has changed to %s", got)
	}
	if got := fmt.Sprint(stuck); got != "{[{0 1 [7] []}] 0}" {
		t.Errorf("the configuration has changed to %s", got)
	}
	if got := fmt.Sprint(Copy(before)); got != wanted {
		t.Errorf("Copy: got %s", got)
	}
}

// TestStep makes the steps of a call, from its beginning to the end of the run.
func TestStep(t *testing.T) {
	m := pair()
	c, event := api.Config{Frames: []api.Frame{m.Frame(0, nil)}}, Event{}
	var texts string
	for event.Outcome == api.OutcomeRunning {
		edge, _ := m.Taken(c)
		c, event = m.Step(c)
		texts += fmt.Sprintln(edge, event, c)
	}
	wanted := "0 {0 0 0} {[{0 0 [0] [[0 0] [0]]} {1 0 [0 0] []}] 0}\n" +
		"0 {0 0 0} {[{0 0 [0] [[0 0] [0]]} {1 1 [0 8] []}] 1}\n" +
		"-1 {0 0 0} {[{0 1 [8] [[0 0] [0]]}] 1}\n" +
		"-1 {1 0 -1} {[{0 1 [8] [[0 0] [0]]}] 1}\n"
	if texts != wanted {
		t.Errorf("got\n%swant\n%s", texts, wanted)
	}
}
