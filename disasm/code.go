package disasm

import (
	"iter"
	"slices"

	"linkhouse/api"
	"linkhouse/encode"
)

// instructions yields the instructions of code one behind the other, with the zero Fault. Where encode.Decode finds none, it yields the fault instead, and ends.
func instructions(t []api.Form, code []byte) iter.Seq2[api.Located, api.Fault] {
	return func(yield func(api.Located, api.Fault) bool) {
		for at := 0; at < len(code); {
			located, fault := decode(t, code, at)
			if !yield(located, fault) || fault != (api.Fault{}) {
				return
			}
			at += located.Size
		}
	}
}

// decode returns the instruction of a valid table at an offset of code. It gives encode.Decode only the form that has the code there, if any: a part of a valid table is a valid table, and to check the whole of it again at every offset would take most of the time.
func decode(t []api.Form, code []byte, at int) (api.Located, api.Fault) {
	number := slices.IndexFunc(t, func(form api.Form) bool { return form.Code == int(code[at]) })
	var forms []api.Form
	if number >= 0 {
		forms = t[number : number+1]
	}
	i, size, fault := encode.Decode(forms, code, at)
	if fault != (api.Fault{}) {
		return api.Located{}, fault
	}
	i.Form = number
	return api.Located{At: at, Size: size, Ins: i}, api.Fault{}
}
