// Package isa describes instruction sets by tables.
package isa

import (
	"slices"

	"linkhouse/api"
)

// Validate checks a table.
func Validate(t []api.Form) api.Fault {
	if len(t) > api.MaxForms {
		return api.Fault{Code: api.ErrTooMany, Index: -1}
	}
	for number, form := range t {
		for code, broken := range checks(form, t[:number]) {
			if broken {
				return api.Fault{Code: code, Index: number}
			}
		}
	}
	return api.Fault{}
}

// Find returns the number of the form with a name and operand kinds.
func Find(t []api.Form, name string, kinds []int) (int, api.Fault) {
	if fault := Validate(t); fault != (api.Fault{}) {
		return 0, fault
	}
	number := slices.IndexFunc(t, func(form api.Form) bool {
		return form.Name == name && slices.Equal(form.Kinds, kinds)
	})
	if number < 0 {
		return 0, api.Fault{Code: api.ErrNotFound, Index: -2}
	}
	return number, api.Fault{}
}

// Size returns the size of the encoding of a form.
func Size(t []api.Form, form int) (int, api.Fault) {
	if fault := Validate(t); fault != (api.Fault{}) {
		return 0, fault
	}
	if form < 0 || form >= len(t) {
		return 0, api.Fault{Code: api.ErrRange, Index: -2}
	}
	return size(t[form].Kinds), api.Fault{}
}

// size is the size of a form whose operands have the given, known kinds.
func size(kinds []int) int {
	registers, bytes := 0, 1
	for _, kind := range kinds {
		switch kind {
		case api.OperandReg, api.OperandVec:
			registers++
		case api.OperandByte, api.OperandShort:
			bytes++
		case api.OperandNear:
			bytes += 2
		case api.OperandWord:
			bytes += 4
		}
	}
	return bytes + (registers+1)/2
}

// Flow returns how execution continues after an instruction of the default table.
func Flow(form int) (int, api.Fault) {
	if form < 0 || form >= api.Forms {
		return 0, api.Fault{Code: api.ErrRange, Index: -2}
	}
	switch form {
	case api.Halt:
		return api.FlowStop, api.Fault{}
	case api.JumpShort, api.JumpNear, api.JumpAbs:
		return api.FlowJump, api.Fault{}
	case api.EqualShort, api.EqualNear, api.OtherShort, api.OtherNear,
		api.LessShort, api.LessNear, api.LowerShort, api.LowerNear:
		return api.FlowBranch, api.Fault{}
	case api.Call, api.CallReg:
		return api.FlowCall, api.Fault{}
	case api.Ret:
		return api.FlowReturn, api.Fault{}
	case api.JumpReg, api.JumpMem, api.Return:
		return api.FlowUnknown, api.Fault{}
	}
	return api.FlowNext, api.Fault{}
}
