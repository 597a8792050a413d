package expr

import (
	"slices"

	"linkhouse/api"
	"linkhouse/token"
)

// maxShift is the greatest right operand of a shift.
const maxShift = 40

// validateSymbols checks the symbols of an expression.
func validateSymbols(symbols []api.Named) api.Fault {
	if len(symbols) > api.MaxText {
		return api.Fault{Code: api.ErrTooMany, Index: -2}
	}
	for k, s := range symbols {
		if code := checkSymbol(s); code != api.OK {
			return api.Fault{Code: code, Index: -10 - k}
		}
	}
	return api.Fault{}
}

// checkSymbol returns the error code of a symbol.
func checkSymbol(s api.Named) int {
	isWrong := func(name string) bool { return name != "" && !token.IsName(name) }
	v := s.Value
	switch {
	case !token.IsName(s.Name), isWrong(v.Symbol), isWrong(v.Minus):
		return api.ErrName
	case isOutside(v.Number), v.Symbol == v.Minus && v.Symbol != "":
		return api.ErrRange
	}
	return api.OK
}

func isOutside(n int) bool {
	return n < -api.MaxExprSize || n > api.MaxExprSize
}

// evaluate returns the value of a node with the values of its children, which are zero where it has none, or an error code.
func evaluate(node api.ExprNode, operands [2]api.Linear, symbols []api.Named) (api.Linear, int) {
	switch node.Kind {
	case api.ExprNumber:
		return api.Linear{Number: node.Value}, api.OK
	case api.ExprName:
		return lookUp(node.Name, symbols), api.OK
	}
	v, code := operate(node.Kind, operands[0], operands[1])
	if code == api.OK && isOutside(v.Number) {
		code = api.ErrTooLarge
	}
	return v, code
}

// lookUp returns the value of a name.
func lookUp(name string, symbols []api.Named) api.Linear {
	k := slices.IndexFunc(symbols, func(s api.Named) bool { return s.Name == name })
	if k < 0 {
		return api.Linear{Symbol: name}
	}
	return symbols[k].Value
}

// operate returns the value of an operation, whose number may be outside the range of values, or an error code.
func operate(kind int, a, b api.Linear) (api.Linear, int) {
	switch kind {
	case api.ExprNegate:
		return negative(a), api.OK
	case api.ExprAdd:
		return sum(a, b)
	case api.ExprSub:
		return sum(a, negative(b))
	}
	if !isNumber(a) || !isNumber(b) {
		return api.Linear{}, api.ErrWrongType
	}
	n, code := calculate(kind, a.Number, b.Number)
	return api.Linear{Number: n}, code
}

func isNumber(v api.Linear) bool {
	return v.Symbol == "" && v.Minus == ""
}

func negative(v api.Linear) api.Linear {
	return api.Linear{Symbol: v.Minus, Minus: v.Symbol, Number: -v.Number}
}

// sum returns the sum of two values, or the error that it is not linear. Neither of them adds and subtracts the same symbol by itself.
func sum(a, b api.Linear) (api.Linear, int) {
	omitEqual(&a.Symbol, &b.Minus)
	omitEqual(&b.Symbol, &a.Minus)
	if a.Symbol != "" && b.Symbol != "" || a.Minus != "" && b.Minus != "" {
		return api.Linear{}, api.ErrWrongType
	}
	// Of two symbols that are joined here, one is empty.
	return api.Linear{Symbol: a.Symbol + b.Symbol, Minus: a.Minus + b.Minus, Number: a.Number + b.Number}, api.OK
}

func omitEqual(added, subtracted *string) {
	if *added == *subtracted {
		*added, *subtracted = "", ""
	}
}

// calculate returns the number of an operation that requires numbers, or an error code.
func calculate(kind, a, b int) (int, int) {
	switch kind {
	case api.ExprDiv, api.ExprRest:
		if b == 0 {
			return 0, api.ErrRange
		}
	case api.ExprLeft, api.ExprRight:
		if b < 0 || b > maxShift {
			return 0, api.ErrRange
		}
	}
	switch kind {
	case api.ExprInvert:
		return ^a, api.OK
	case api.ExprMul:
		return product(a, b)
	case api.ExprDiv:
		return a / b, api.OK
	case api.ExprRest:
		return a % b, api.OK
	case api.ExprLeft:
		return product(a, 1<<b)
	case api.ExprRight:
		return a >> b, api.OK
	case api.ExprAnd:
		return a & b, api.OK
	case api.ExprXor:
		return a ^ b, api.OK
	default: // api.ExprOr
		return a | b, api.OK
	}
}

// product returns the product of two numbers of which an int may not hold the exact one, or the error that it is too large.
func product(a, b int) (int, int) {
	if a != 0 && absolute(b) > api.MaxExprSize/absolute(a) {
		return 0, api.ErrTooLarge
	}
	return a * b, api.OK
}

func absolute(n int) int {
	return max(n, -n)
}
