package isa

import (
	"iter"
	"slices"
	"strings"

	"linkhouse/api"
)

// checks yields the error codes of a form in the order in which they are checked, each with whether it applies. A check may rely on the ones before it, because it is made only if the loop over checks goes on.
func checks(form api.Form, earlier []api.Form) iter.Seq2[int, bool] {
	return func(yield func(int, bool) bool) {
		_ = yield(api.ErrName, !isFormName(form.Name)) &&
			yield(api.ErrRange, form.Code < 0 || form.Code > 255) &&
			yield(api.ErrTooMany, len(form.Kinds) > api.MaxOperands) &&
			yield(api.ErrKind, slices.ContainsFunc(form.Kinds, isUnknown)) &&
			yield(api.ErrMalformed, countDistances(form.Kinds) > 1) &&
			yield(api.ErrExists, slices.ContainsFunc(earlier, func(other api.Form) bool {
				return clash(form, other)
			}))
	}
}

// isFormName tells whether a form may have this name, which permits less than the names of Z9.
func isFormName(name string) bool {
	other := func(r rune) bool { return r < 'a' || r > 'z' }
	return name != "" && len(name) <= api.MaxName && !strings.ContainsFunc(name, other)
}

func isUnknown(kind int) bool {
	return kind < api.OperandReg || kind > api.OperandNear
}

func countDistances(kinds []int) int {
	count := 0
	for _, kind := range kinds {
		if kind == api.OperandShort || kind == api.OperandNear {
			count++
		}
	}
	return count
}

// clash tells whether the instructions of two forms could not be told apart by their bytes, or by their text.
func clash(a, b api.Form) bool {
	return a.Code == b.Code || a.Name == b.Name && slices.Equal(a.Kinds, b.Kinds)
}
