package isa_test

import (
	"math"
	"reflect"
	"slices"
	"strings"
	"testing"

	"linkhouse/api"
	"linkhouse/isa"
)

// invalid returns a fault with a code and an index.
func invalid(code, index int) api.Fault { return api.Fault{Code: code, Index: index} }

// numbered returns n valid forms with different names and codes.
func numbered(n int) []api.Form {
	var t []api.Form
	for k := range n {
		t = append(t, api.Form{Name: string([]byte{byte('a' + k/26), byte('a' + k%26)}), Code: k})
	}
	return t
}

// copyOf returns a table that shares no memory with t.
func copyOf(t []api.Form) []api.Form {
	l := slices.Clone(t)
	for k := range l {
		l[k].Kinds = slices.Clone(l[k].Kinds)
	}
	return l
}

func TestValidateAccepts(t *testing.T) {
	long := strings.Repeat("z", api.MaxName)
	for name, table := range map[string][]api.Form{
		"nil":                        nil,
		"empty":                      {},
		"smallest and largest code":  {{Name: "a", Code: 0}, {Name: "b", Code: 255}},
		"shortest and longest name":  {{Name: "a", Code: 1}, {Name: long, Code: 2}},
		"first and last letter":      {{Name: "az", Code: 1}},
		"most operands":              {{Name: "a", Kinds: []int{1, 2, 3, 4}}},
		"one short distance":         {{Name: "a", Kinds: []int{5, 1, 1, 3}}},
		"one near distance":          {{Name: "a", Kinds: []int{1, 3, 4, 6}}},
		"same name, other kinds":     {{Name: "x", Code: 1}, {Name: "x", Code: 2, Kinds: []int{1}}},
		"same kinds in other order":  {{Name: "x", Code: 1, Kinds: []int{1, 2}}, {Name: "x", Code: 2, Kinds: []int{2, 1}}},
		"kinds with the same prefix": {{Name: "x", Code: 1, Kinds: []int{1, 2}}, {Name: "x", Code: 2, Kinds: []int{1, 2, 2}}},
		"same kinds, other name":     {{Name: "x", Code: 1, Kinds: []int{1}}, {Name: "y", Code: 2, Kinds: []int{1}}},
		"most forms":                 numbered(api.MaxForms),
		"default":                    isa.Default(),
	} {
		if got := isa.Validate(table); got != (api.Fault{}) {
			t.Errorf("%s: got %v", name, got)
		}
	}
}

func TestValidateRejects(t *testing.T) {
	for name, c := range map[string]struct {
		table []api.Form
		want  api.Fault
	}{
		"too many forms":       {numbered(api.MaxForms + 1), invalid(api.ErrTooMany, -1)},
		"empty name":           {[]api.Form{{Name: ""}}, invalid(api.ErrName, 0)},
		"long name":            {[]api.Form{{Name: strings.Repeat("a", api.MaxName+1)}}, invalid(api.ErrName, 0)},
		"capital letter":       {[]api.Form{{Name: "A"}}, invalid(api.ErrName, 0)},
		"last capital letter":  {[]api.Form{{Name: "aZ"}}, invalid(api.ErrName, 0)},
		"byte before a":        {[]api.Form{{Name: "`"}}, invalid(api.ErrName, 0)},
		"byte after z":         {[]api.Form{{Name: "{"}}, invalid(api.ErrName, 0)},
		"digit":                {[]api.Form{{Name: "a1"}}, invalid(api.ErrName, 0)},
		"name of Z9":           {[]api.Form{{Name: "a._$"}}, invalid(api.ErrName, 0)},
		"space":                {[]api.Form{{Name: "a "}}, invalid(api.ErrName, 0)},
		"other letter":         {[]api.Form{{Name: "\u00e4"}}, invalid(api.ErrName, 0)},
		"no text":              {[]api.Form{{Name: "a\xff"}}, invalid(api.ErrName, 0)},
		"zero byte":            {[]api.Form{{Name: "a\x00"}}, invalid(api.ErrName, 0)},
		"negative code":        {[]api.Form{{Name: "a", Code: -1}}, invalid(api.ErrRange, 0)},
		"large code":           {[]api.Form{{Name: "a", Code: 256}}, invalid(api.ErrRange, 0)},
		"smallest number":      {[]api.Form{{Name: "a", Code: math.MinInt}}, invalid(api.ErrRange, 0)},
		"largest number":       {[]api.Form{{Name: "a", Code: math.MaxInt}}, invalid(api.ErrRange, 0)},
		"five operands":        {[]api.Form{{Name: "a", Kinds: []int{1, 1, 1, 1, 1}}}, invalid(api.ErrTooMany, 0)},
		"kind 0":               {[]api.Form{{Name: "a", Kinds: []int{0}}}, invalid(api.ErrKind, 0)},
		"kind 7":               {[]api.Form{{Name: "a", Kinds: []int{1, 2, 3, 7}}}, invalid(api.ErrKind, 0)},
		"negative kind":        {[]api.Form{{Name: "a", Kinds: []int{-1}}}, invalid(api.ErrKind, 0)},
		"largest kind":         {[]api.Form{{Name: "a", Kinds: []int{math.MaxInt}}}, invalid(api.ErrKind, 0)},
		"two short distances":  {[]api.Form{{Name: "a", Kinds: []int{5, 1, 5}}}, invalid(api.ErrMalformed, 0)},
		"two near distances":   {[]api.Form{{Name: "a", Kinds: []int{6, 6}}}, invalid(api.ErrMalformed, 0)},
		"both distances":       {[]api.Form{{Name: "a", Kinds: []int{5, 1, 1, 6}}}, invalid(api.ErrMalformed, 0)},
		"same code":            {[]api.Form{{Name: "a", Code: 3}, {Name: "b", Code: 3}}, invalid(api.ErrExists, 1)},
		"same name and kinds":  {[]api.Form{{Name: "a", Code: 1, Kinds: []int{1, 2}}, {Name: "a", Code: 2, Kinds: []int{1, 2}}}, invalid(api.ErrExists, 1)},
		"nil and empty kinds":  {[]api.Form{{Name: "a", Code: 1}, {Name: "a", Code: 2, Kinds: []int{}}}, invalid(api.ErrExists, 1)},
		"same code, not next":  {[]api.Form{{Name: "a", Code: 1}, {Name: "b", Code: 2}, {Name: "c", Code: 1}}, invalid(api.ErrExists, 2)},
		"same shape, not next": {[]api.Form{{Name: "a", Code: 1}, {Name: "b", Code: 2}, {Name: "a", Code: 3}}, invalid(api.ErrExists, 2)},
	} {
		if got := isa.Validate(c.table); got != c.want {
			t.Errorf("%s: got %v, want %v", name, got, c.want)
		}
	}
}

// TestValidateOrder removes the errors of a form one after the other, in the order in which they are checked.
func TestValidateOrder(t *testing.T) {
	form := api.Form{Name: "A", Code: 300, Kinds: []int{0, 5, 5, 1, 1}}
	table := []api.Form{{Name: "a", Code: 9}, form, form}
	for _, step := range []struct {
		want   int
		repair func(f *api.Form)
	}{
		{api.ErrName, func(f *api.Form) { f.Name = "b" }},
		{api.ErrRange, func(f *api.Form) { f.Code = 9 }},
		{api.ErrTooMany, func(f *api.Form) { f.Kinds = []int{0, 5, 5} }},
		{api.ErrKind, func(f *api.Form) { f.Kinds = []int{5, 5} }},
		{api.ErrMalformed, func(f *api.Form) { f.Kinds = []int{5} }},
		{api.ErrExists, func(f *api.Form) { f.Code = 10 }},
	} {
		if got := isa.Validate(table); got != invalid(step.want, 1) {
			t.Errorf("got %v, want %v", got, invalid(step.want, 1))
		}
		step.repair(&table[1])
	}
	if got := isa.Validate(table); got != invalid(api.ErrName, 2) {
		t.Errorf("got %v for the next form", got)
	}
}

// TestValidateFirstForm checks that a form comes before an error that is checked earlier in a later form, and the number of forms before both.
func TestValidateFirstForm(t *testing.T) {
	table := []api.Form{{Name: "a"}, {Name: "a"}, {Name: "A"}}
	if got := isa.Validate(table); got != invalid(api.ErrExists, 1) {
		t.Errorf("got %v", got)
	}
	many := numbered(api.MaxForms + 1)
	many[0].Name = ""
	if got := isa.Validate(many); got != invalid(api.ErrTooMany, -1) {
		t.Errorf("got %v", got)
	}
}

// kindsError is the error of a form with these kinds, by a count of how often each number occurs.
func kindsError(kinds []int) int {
	count := map[int]int{}
	for _, kind := range kinds {
		count[kind]++
	}
	switch {
	case len(kinds) > 4:
		return api.ErrTooMany
	case count[1]+count[2]+count[3]+count[4]+count[5]+count[6] < len(kinds):
		return api.ErrKind
	case count[5]+count[6] > 1:
		return api.ErrMalformed
	}
	return api.OK
}

// kindLists calls use with all lists of up to five of the numbers from -1 to 8.
func kindLists(use func(kinds []int)) {
	var extend func(kinds []int)
	extend = func(kinds []int) {
		use(kinds)
		if len(kinds) == 5 {
			return
		}
		for kind := -1; kind <= 8; kind++ {
			extend(append(slices.Clone(kinds), kind))
		}
	}
	extend(nil)
}

func TestValidateAllKinds(t *testing.T) {
	kindLists(func(kinds []int) {
		got := isa.Validate([]api.Form{{Name: "a", Kinds: kinds}})
		if want := invalid(kindsError(kinds), 0); got != want {
			t.Fatalf("kinds %v: got %v, want %v", kinds, got, want)
		}
	})
}

// TestNoAliasing checks that arguments, with their spare capacity, stay as they are.
func TestNoAliasing(t *testing.T) {
	back := isa.Default()
	back = append(back, api.Form{Name: "spare", Code: 300, Kinds: []int{9}})
	for k := range back {
		back[k].Kinds = append(back[k].Kinds, 99)[:len(back[k].Kinds)]
	}
	before := copyOf(back)
	table := back[:api.Forms]
	kinds := []int{1, 1, 77}
	isa.Validate(table)
	isa.Find(table, "add", kinds[:2])
	isa.Size(table, api.Add)
	if !reflect.DeepEqual(copyOf(back), before) || !slices.Equal(kinds, []int{1, 1, 77}) {
		t.Error("an argument has changed")
	}
	for k := range back {
		if n := len(back[k].Kinds); back[k].Kinds[:n+1][n] != 99 {
			t.Errorf("the spare capacity of the kinds of form %d has changed", k)
		}
	}
}
