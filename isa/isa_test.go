package isa_test

import (
	"math"
	"slices"
	"testing"

	"linkhouse/api"
	"linkhouse/isa"
)

// small is a table of which no form is at its number in the default table.
func small() []api.Form {
	return []api.Form{
		{Name: "x", Code: 7},
		{Name: "x", Code: 9, Kinds: []int{api.OperandReg}},
		{Name: "y", Code: 8, Kinds: []int{api.OperandReg, api.OperandByte}},
		{Name: "x", Code: 0, Kinds: []int{api.OperandByte, api.OperandReg}},
	}
}

// broken are tables with the faults that every function with a table reports first.
func broken() map[api.Fault][]api.Form {
	return map[api.Fault][]api.Form{
		invalid(api.ErrTooMany, -1):  numbered(api.MaxForms + 1),
		invalid(api.ErrName, 0):      {{Name: "A"}},
		invalid(api.ErrRange, 1):     {{Name: "x"}, {Name: "y", Code: 256}},
		invalid(api.ErrTooMany, 1):   {{Name: "x"}, {Name: "y", Code: 1, Kinds: []int{1, 1, 1, 1, 1}}},
		invalid(api.ErrKind, 0):      {{Name: "x", Kinds: []int{7}}},
		invalid(api.ErrMalformed, 0): {{Name: "x", Kinds: []int{5, 6}}},
		invalid(api.ErrExists, 1):    {{Name: "x"}, {Name: "x", Code: 1}},
	}
}

func TestFindDefault(t *testing.T) {
	for _, r := range rows() {
		got, fault := isa.Find(isa.Default(), r.name, r.kinds)
		if got != r.number || fault != (api.Fault{}) {
			t.Errorf("%s %v: got %d %v, want %d", r.name, r.kinds, got, fault, r.number)
		}
	}
}

func TestFind(t *testing.T) {
	for _, c := range []struct {
		name  string
		kinds []int
		want  int
	}{
		{"x", nil, 0},
		{"x", []int{}, 0},
		{"x", []int{1}, 1},
		{"y", []int{1, 3}, 2},
		{"x", []int{3, 1}, 3},
	} {
		if got, fault := isa.Find(small(), c.name, c.kinds); got != c.want || fault != (api.Fault{}) {
			t.Errorf("%s %v: got %d %v, want %d", c.name, c.kinds, got, fault, c.want)
		}
	}
}

func TestFindNothing(t *testing.T) {
	for _, c := range []struct {
		table []api.Form
		name  string
		kinds []int
	}{
		{nil, "x", nil},
		{[]api.Form{}, "", nil},
		{small(), "", nil},
		{small(), "z", nil},
		{small(), "X", nil},
		{small(), "xx", nil},
		{small(), "y", nil},
		{small(), "y", []int{1}},
		{small(), "y", []int{1, 3, 3}},
		{small(), "y", []int{3, 1}},
		{small(), "x", []int{1, 3}},
		{small(), "x", []int{0}},
		{small(), "x", []int{-1}},
		{small(), "x", []int{math.MaxInt, math.MinInt, 1, 1, 1, 1}},
		{isa.Default(), "jump", nil},
		{isa.Default(), "ret", []int{1}},
	} {
		if got, fault := isa.Find(c.table, c.name, c.kinds); got != 0 || fault != invalid(api.ErrNotFound, -2) {
			t.Errorf("%q %v: got %d %v", c.name, c.kinds, got, fault)
		}
	}
}

// TestFindValidates checks that a table must be valid even where the form is in front of its error, or is missing.
func TestFindValidates(t *testing.T) {
	for want, table := range broken() {
		for _, name := range []string{"x", "none"} {
			if got, fault := isa.Find(table, name, nil); got != 0 || fault != want {
				t.Errorf("%q: got %d %v, want %v", name, got, fault, want)
			}
		}
	}
}

func TestSizeDefault(t *testing.T) {
	for _, r := range rows() {
		if got, fault := isa.Size(isa.Default(), r.number); got != r.size || fault != (api.Fault{}) {
			t.Errorf("form %d: got %d %v, want %d", r.number, got, fault, r.size)
		}
	}
}

func TestSize(t *testing.T) {
	for _, c := range []struct {
		kinds []int
		want  int
	}{
		{nil, 1},
		{[]int{}, 1},
		{[]int{1}, 2},
		{[]int{2}, 2},
		{[]int{3}, 2},
		{[]int{4}, 5},
		{[]int{5}, 2},
		{[]int{6}, 3},
		{[]int{1, 2}, 2},
		{[]int{2, 2, 1}, 3},
		{[]int{1, 2, 1, 2}, 3},
		{[]int{1, 3}, 3},
		{[]int{1, 4, 2}, 6},
		{[]int{3, 1, 6}, 5},
		{[]int{2, 3, 3, 5}, 5},
		{[]int{4, 4, 4, 4}, 17},
		{[]int{4, 4, 4, 6}, 15},
	} {
		table := []api.Form{{Name: "a", Code: 1, Kinds: []int{4, 4}}, {Name: "b", Code: 2, Kinds: c.kinds}}
		if got, fault := isa.Size(table, 1); got != c.want || fault != (api.Fault{}) {
			t.Errorf("kinds %v: got %d %v, want %d", c.kinds, got, fault, c.want)
		}
	}
}

func TestSizeRejects(t *testing.T) {
	for _, table := range [][]api.Form{nil, {}, small(), isa.Default(), numbered(api.MaxForms)} {
		for _, form := range []int{-1, -2, len(table), len(table) + 1, math.MinInt, math.MaxInt} {
			if got, fault := isa.Size(table, form); got != 0 || fault != invalid(api.ErrRange, -2) {
				t.Errorf("form %d of %d: got %d %v", form, len(table), got, fault)
			}
		}
	}
}

// TestSizeValidates checks that a table must be valid even where the form is in front of its error, or is missing.
func TestSizeValidates(t *testing.T) {
	for want, table := range broken() {
		for _, form := range []int{0, -1, 1000} {
			if got, fault := isa.Size(table, form); got != 0 || fault != want {
				t.Errorf("form %d: got %d %v, want %v", form, got, fault, want)
			}
		}
	}
}

func TestFlow(t *testing.T) {
	names := map[int][]string{
		api.FlowJump:    {"jump", "jumpa"},
		api.FlowBranch:  {"jeq", "jne", "jlt", "jlo"},
		api.FlowCall:    {"call", "callr"},
		api.FlowReturn:  {"ret"},
		api.FlowUnknown: {"jumpr", "jumpm", "eret"},
		api.FlowStop:    {"halt"},
	}
	for _, r := range rows() {
		want := api.FlowNext
		for flow, l := range names {
			if slices.Contains(l, r.name) {
				want = flow
			}
		}
		if got, fault := isa.Flow(r.number); got != want || fault != (api.Fault{}) {
			t.Errorf("%s: got %d %v, want %d", r.name, got, fault, want)
		}
	}
}

func TestFlowRejects(t *testing.T) {
	for _, form := range []int{-1, -2, 59, 60, api.MaxForms, math.MinInt, math.MaxInt} {
		if got, fault := isa.Flow(form); got != 0 || fault != invalid(api.ErrRange, -2) {
			t.Errorf("form %d: got %d %v", form, got, fault)
		}
	}
}
