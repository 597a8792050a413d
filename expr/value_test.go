package expr_test

import (
	"math"
	"math/big"
	"math/rand"
	"slices"
	"testing"

	"linkhouse/api"
)

// linear is a value: a symbol minus a symbol plus a number.
func linear(symbol, minus string, n int) api.Linear {
	return api.Linear{Symbol: symbol, Minus: minus, Number: n}
}

// named is a symbol with a value.
func named(name string, v api.Linear) api.Named { return api.Named{Name: name, Value: v} }

// expectLine evaluates the expression of a line without symbols.
func expectLine(t *testing.T, line string, want api.Linear) {
	t.Helper()
	e, fault := oracleParse(tokensOf(t, line))
	if fault != none {
		t.Fatalf("%q is no expression: %v", line, fault)
	}
	expectValue(t, e, nil, want, none)
}

// TestValueNumbers evaluates lines with numbers.
func TestValueNumbers(t *testing.T) {
	for line, want := range map[string]int{
		"0": 0, "7": 7, "0xffffffff": math.MaxUint32, "-1": -1, "- -1": 1, "-0": 0, "~0": -1, "~1": -2, "~-1": 0, "~-5": 4, "~0xffffffff": -1 << 32,
		"2 + 3": 5, "2 - 3": -1, "-2 - 3": -5, "2 * 3": 6, "-2 * 3": -6, "-2 * -3": 6, "0 * -3": 0, "2 + 3 * 4": 14, "(2 + 3) * 4": 20,
		"7 / 2": 3, "-7 / 2": -3, "7 / -2": -3, "-7 / -2": 3, "6 / 3": 2, "-6 / 3": -2, "1 / 2": 0, "-1 / 2": 0, "0 / 5": 0, "0 / -5": 0,
		"7 % 2": 1, "-7 % 2": -1, "7 % -2": 1, "-7 % -2": -1, "6 % 3": 0, "-6 % 3": 0, "1 % 2": 1, "-1 % 2": -1, "0 % 5": 0, "5 % 7": 5, "-5 % 7": -5,
		"3 << 0": 3, "3 << 1": 6, "-3 << 2": -12, "1 << 40": 1 << 40, "-1 << 40": -1 << 40, "0 << 40": 0, "1 << 39": 1 << 39, "2 << 39": 1 << 40,
		"3 >> 0": 3, "7 >> 1": 3, "-7 >> 1": -4, "-1 >> 1": -1, "-1 >> 40": -1, "-8 >> 2": -2, "-9 >> 2": -3, "1 >> 40": 0, "-5 >> 0": -5, "0 >> 40": 0,
		"(1 << 40) >> 40": 1, "(1 << 40) >> 39": 2, "-(1 << 40) >> 40": -1, "((1 << 40) - 1) >> 40": 0, "(1 - (1 << 40)) >> 40": -1,
		"6 & 3": 2, "6 | 3": 7, "6 ^ 3": 5, "-1 & 5": 5, "-2 & 5": 4, "-2 | 5": -1, "-2 ^ 5": -5, "-4 & -6": -8, "-4 | -6": -2, "-4 ^ -6": 6,
		"-1 ^ 0": -1, "-1 ^ -1": 0, "-1 & 0xffffffff": math.MaxUint32, "0 | 0": 0,
		"1 << 40 - 1": 1 << 39, "~-(1 << 40)": 1<<40 - 1,
	} {
		expectLine(t, line, linear("", "", want))
	}
}

// TestValueSymbols evaluates lines with names that are no symbols.
func TestValueSymbols(t *testing.T) {
	for line, want := range map[string]api.Linear{
		"a":                         linear("a", "", 0),
		"-a":                        linear("", "a", 0),
		"- -a":                      linear("a", "", 0),
		"a + 1":                     linear("a", "", 1),
		"1 + a":                     linear("a", "", 1),
		"a - 1":                     linear("a", "", -1),
		"1 - a":                     linear("", "a", 1),
		"a - b":                     linear("a", "b", 0),
		"a - b + 2":                 linear("a", "b", 2),
		"-b + a":                    linear("a", "b", 0),
		"-(a - b + 2)":              linear("b", "a", -2),
		"a - a":                     linear("", "", 0),
		"-a + a":                    linear("", "", 0),
		"a + -a":                    linear("", "", 0),
		"a - a + a":                 linear("a", "", 0),
		"-a - (b - a)":              linear("", "b", 0),
		"a - b + b":                 linear("a", "", 0),
		"b + (a - b)":               linear("a", "", 0),
		"b - a - b":                 linear("", "a", 0),
		"a - (a - b)":               linear("b", "", 0),
		"(a - b) + (b - c)":         linear("a", "c", 0),
		"(a - b) + (c - a)":         linear("c", "b", 0),
		"(a - b) + (b - a)":         linear("", "", 0),
		"(a - b) - (a - b)":         linear("", "", 0),
		"(a - b) - (a - c)":         linear("c", "b", 0),
		"(a - b) - (c - b)":         linear("a", "c", 0),
		"(a - b + 5) - (c - b + 7)": linear("a", "c", -2),
		"(a - a) * 3 + 1":           linear("", "", 1),
		"~(a - a)":                  linear("", "", -1),
		"(a - a + 6) / (b - b + 2)": linear("", "", 3),
		"a + (1 << 40)":             linear("a", "", 1<<40),
		"a - (1 << 40) - b":         linear("a", "b", -1<<40),
	} {
		expectLine(t, line, want)
	}
}

// lookups are symbols of which some have the same name, and some have values with names that are symbols too.
func lookups() []api.Named {
	return []api.Named{
		named("a", linear("", "", 5)),
		named("b", linear("c", "", -2)),
		named("a", linear("", "", 6)),
		named("c", linear("", "", 7)),
		named("d", linear("x", "y", api.MaxExprSize)),
		named("e", linear("e", "", 1)),
		named("f", linear("", "g", -api.MaxExprSize)),
		named("b", linear("", "", 9)),
		named(longName, linear(longName, longName[1:], 0)),
	}
}

// TestValueNames has names of symbols, of which the first one with the name counts, and other names. A symbol in a value is not looked up again.
func TestValueNames(t *testing.T) {
	for word, want := range map[string]api.Linear{
		"a": linear("", "", 5), "b": linear("c", "", -2), "c": linear("", "", 7), "d": linear("x", "y", 1<<40), "e": linear("e", "", 1),
		"f": linear("", "g", -1<<40), "g": linear("g", "", 0), "x": linear("x", "", 0), "A": linear("A", "", 0), "aa": linear("aa", "", 0),
		longName: linear(longName, longName[1:], 0), longName[1:]: linear(longName[1:], "", 0),
	} {
		expectValue(t, []api.ExprNode{name(word)}, lookups(), want, none)
		expectValue(t, []api.ExprNode{name(word)}, nil, linear(word, "", 0), none)
		expectValue(t, []api.ExprNode{name(word)}, []api.Named{}, linear(word, "", 0), none)
	}
	for words, want := range map[string]api.Linear{
		"a 2 *": linear("", "", 10), "b a +": linear("c", "", 3), "b c +": linear("c", "", 5), "d x -": linear("", "y", 1<<40), "e e -": linear("", "", 0),
		"f g +": linear("", "", -1<<40), "x d neg +": linear("y", "", -1<<40), "c ~": linear("", "", -8), "b x -": linear("c", "x", -2),
	} {
		expectValue(t, postfix(t, words), lookups(), want, none)
	}
}

// TestValueIgnores gives the fields that a kind does not use all sorts of values, among them positions of nodes with symbols.
func TestValueIgnores(t *testing.T) {
	for _, n := range []int{0, 1, 2, 3, -1, 59, 60, 99, math.MaxInt, math.MinInt} {
		e := []api.ExprNode{
			{Kind: api.ExprName, Name: "a", Value: n, Left: n, Right: n},
			{Kind: api.ExprNumber, Value: 5, Name: "b", Left: n, Right: n},
			{Kind: api.ExprInvert, Left: 1, Right: n, Name: "c", Value: n},
			{Kind: api.ExprNegate, Left: 2, Right: n, Name: "d", Value: n},
			{Kind: api.ExprMul, Left: 3, Right: 1, Name: "e", Value: n},
		}
		for k, want := range []api.Linear{linear("a", "", 0), linear("", "", 5), linear("", "", -6), linear("", "", 6), linear("", "", 30)} {
			expectValue(t, e[:k+1], nil, want, none)
		}
	}
}

// oracleNumber is R6.1 for operations that require numbers, and R6.4 for their errors.
func oracleNumber(kind, a, b int) (int, int) {
	x, y, z := big.NewInt(int64(a)), big.NewInt(int64(b)), new(big.Int)
	shift := uint(max(0, min(b, 50)))
	switch {
	case (kind == api.ExprDiv || kind == api.ExprRest) && b == 0, (kind == api.ExprLeft || kind == api.ExprRight) && (b < 0 || b > 40):
		return 0, api.ErrRange
	case kind == api.ExprInvert:
		z.Sub(z.Neg(x), big.NewInt(1))
	case kind == api.ExprMul:
		z.Mul(x, y)
	case kind == api.ExprDiv:
		z.Quo(x, y)
	case kind == api.ExprRest:
		z.Rem(x, y)
	case kind == api.ExprLeft:
		z.Lsh(x, shift)
	case kind == api.ExprRight:
		z.Div(x, new(big.Int).Lsh(big.NewInt(1), shift)) // which rounds down, as the divisor is positive
	case kind == api.ExprAnd:
		z.And(x, y)
	case kind == api.ExprXor:
		z.Xor(x, y)
	case kind == api.ExprOr:
		z.Or(x, y)
	}
	if z.CmpAbs(big.NewInt(1<<40)) > 0 {
		return 0, api.ErrTooLarge
	}
	return int(z.Int64()), api.OK
}

// oracleOperation returns the value of an operation, or an error code, from the sums of all symbols and numbers.
func oracleOperation(kind int, a, b api.Linear) (api.Linear, int) {
	if kind == api.ExprInvert || kind >= api.ExprMul {
		if a != linear("", "", a.Number) || kind != api.ExprInvert && b != linear("", "", b.Number) {
			return api.Linear{}, api.ErrWrongType
		}
		n, code := oracleNumber(kind, a.Number, b.Number)
		return linear("", "", n), code
	}
	signA, signB := 1, 1
	switch kind {
	case api.ExprNegate:
		signA, signB = -1, 0
	case api.ExprSub:
		signB = -1
	}
	counts := map[string]int{}
	counts[a.Symbol] += signA
	counts[a.Minus] -= signA
	counts[b.Symbol] += signB
	counts[b.Minus] -= signB
	delete(counts, "")
	v := linear("", "", signA*a.Number+signB*b.Number)
	for symbol, count := range counts {
		switch {
		case count == 1 && v.Symbol == "":
			v.Symbol = symbol
		case count == -1 && v.Minus == "":
			v.Minus = symbol
		case count != 0:
			return api.Linear{}, api.ErrWrongType
		}
	}
	if v.Number < -1<<40 || v.Number > 1<<40 {
		return api.Linear{}, api.ErrTooLarge
	}
	return v, api.OK
}

// expectOperations compares all operations of two values with the oracle.
func expectOperations(t *testing.T, a, b api.Linear) {
	t.Helper()
	symbols := []api.Named{named("x", a), named("y", b)}
	for kind := api.ExprNegate; kind <= api.ExprOr; kind++ {
		want, code := oracleOperation(kind, a, b)
		fault := none
		if code != api.OK {
			want, fault = api.Linear{}, failed(code, 2)
		}
		expectValue(t, []api.ExprNode{name("x"), name("y"), binary(kind, 0, 1)}, symbols, want, fault)
	}
}

// borders are numbers near those at which something changes.
func borders() []int {
	l := []int{0, 6, 7, 12, 100, 12345}
	for _, n := range []int{1, 2, 39, 40, 41, 63, 64, 65, 1 << 19, 1 << 20, 1 << 21, 1<<31 - 1, 1 << 32, 1 << 39, 1<<40 - 1} {
		l = append(l, n-1, n, n+1)
	}
	for _, n := range slices.Clone(l) {
		l = append(l, -n)
	}
	return l
}

// TestValueBorders compares all operations of all pairs of such numbers with the oracle.
func TestValueBorders(t *testing.T) {
	for _, a := range borders() {
		for _, b := range borders() {
			expectOperations(t, linear("", "", a), linear("", "", b))
		}
	}
}

// TestValueShifts shifts by all numbers, in both directions.
func TestValueShifts(t *testing.T) {
	for _, a := range []int{0, 1, -1, 3, -3, 1 << 40, -1 << 40, 1<<40 - 1, 0x123456789, -0x123456789} {
		for b := -70; b <= 140; b++ {
			expectOperations(t, linear("", "", a), linear("", "", b))
		}
	}
}

// TestValueRandom compares operations of numbers of all sizes with the oracle.
func TestValueRandom(t *testing.T) {
	r := rand.New(rand.NewSource(1))
	random := func() int { return (r.Intn(1<<41+1) - 1<<40) >> r.Intn(41) }
	for range 5000 {
		expectOperations(t, linear("", "", random()), linear("", "", random()))
	}
}

// TestValueLinear compares all operations of values with symbols with the oracle.
func TestValueLinear(t *testing.T) {
	var values []api.Linear
	words := []string{"", "a", "b", "c", "x"}
	for _, symbol := range words {
		for _, minus := range words {
			if symbol == minus && symbol != "" {
				continue
			}
			for _, n := range []int{0, 1, -7, api.MaxExprSize, -api.MaxExprSize} {
				values = append(values, linear(symbol, minus, n))
			}
		}
	}
	for _, a := range values {
		for _, b := range values {
			expectOperations(t, a, b)
		}
	}
}

// TestValueErrors has lines with a node whose value is not defined, at a position in postorder.
func TestValueErrors(t *testing.T) {
	for line, want := range map[string]api.Fault{
		"a + a": failed(api.ErrWrongType, 2), "a + b": failed(api.ErrWrongType, 2), "-a - b": failed(api.ErrWrongType, 3), "-a - a": failed(api.ErrWrongType, 3),
		"a - b + a": failed(api.ErrWrongType, 4), "a + a - a": failed(api.ErrWrongType, 2), "a - a + a + b": failed(api.ErrWrongType, 6), "a - b - c": failed(api.ErrWrongType, 4), "a - (b - c)": failed(api.ErrWrongType, 4),
		"a * 1": failed(api.ErrWrongType, 2), "1 * a": failed(api.ErrWrongType, 2), "a * 0": failed(api.ErrWrongType, 2), "-a * 0": failed(api.ErrWrongType, 3), "0 * -a": failed(api.ErrWrongType, 3),
		"~a": failed(api.ErrWrongType, 1), "~-a": failed(api.ErrWrongType, 2), "~(a - b)": failed(api.ErrWrongType, 3),
		"a / 0": failed(api.ErrWrongType, 2), "a % 0": failed(api.ErrWrongType, 2), "a << 41": failed(api.ErrWrongType, 2), "a >> -1": failed(api.ErrWrongType, 3), "1 << a": failed(api.ErrWrongType, 2),
		"a & 1": failed(api.ErrWrongType, 2), "1 ^ a": failed(api.ErrWrongType, 2), "a | a": failed(api.ErrWrongType, 2), "a & a": failed(api.ErrWrongType, 2), "a / a": failed(api.ErrWrongType, 2),
		"7 / 0": failed(api.ErrRange, 2), "0 / 0": failed(api.ErrRange, 2), "7 % 0": failed(api.ErrRange, 2), "7 / (1 - 1)": failed(api.ErrRange, 4), "7 % (a - a)": failed(api.ErrRange, 4),
		"1 << 41": failed(api.ErrRange, 2), "0 << 41": failed(api.ErrRange, 2), "1 << -1": failed(api.ErrRange, 3), "1 >> 41": failed(api.ErrRange, 2), "1 >> -1": failed(api.ErrRange, 3),
		"1 << 64": failed(api.ErrRange, 2), "1 << 0xffffffff": failed(api.ErrRange, 2), "1 >> 64": failed(api.ErrRange, 2), "-1 >> 0xffffffff": failed(api.ErrRange, 3),
		"2 << 40": failed(api.ErrTooLarge, 2), "-2 << 40": failed(api.ErrTooLarge, 3), "(1 << 40) + 1": failed(api.ErrTooLarge, 4), "-(1 << 40) - 1": failed(api.ErrTooLarge, 5),
		"~(1 << 40)": failed(api.ErrTooLarge, 3), "(1 << 40) | 1": failed(api.ErrTooLarge, 4), "-(1 << 40) ^ (1 << 40)": failed(api.ErrTooLarge, 7), "(1 << 40) ^ 1": failed(api.ErrTooLarge, 4),
		"0xffffffff * 0xffffffff": failed(api.ErrTooLarge, 2), "(1 << 40) * (1 << 40)": failed(api.ErrTooLarge, 6), "-(1 << 40) * (1 << 40)": failed(api.ErrTooLarge, 7),
		"(1 << 32) * (1 << 32)": failed(api.ErrTooLarge, 6), "(1 << 40) << 24": failed(api.ErrTooLarge, 4), "(1 << 40) << 40": failed(api.ErrTooLarge, 4), "(1 << 20) * (1 << 20) * 2": failed(api.ErrTooLarge, 8),
		"a + (1 << 40) + 1": failed(api.ErrTooLarge, 6), "a + (1 << 40) + (1 << 40) - a": failed(api.ErrTooLarge, 8), "(a + (1 << 40)) + (a + (1 << 40))": failed(api.ErrWrongType, 10),
		"1 / 0 + a * a": failed(api.ErrRange, 2), "a * a + 1 / 0": failed(api.ErrWrongType, 2), "(2 << 40) / 0": failed(api.ErrTooLarge, 2),
	} {
		e, fault := oracleParse(tokensOf(t, line))
		if fault != none {
			t.Fatalf("%q is no expression: %v", line, fault)
		}
		expectValue(t, e, nil, api.Linear{}, want)
		// A node that is not part of the last one must have a value too.
		expectValue(t, append(e, number(1)), nil, api.Linear{}, want)
	}
}

// TestValueOrder removes the errors of a call one after the other, in the order in which they are checked.
func TestValueOrder(t *testing.T) {
	symbols := slices.Repeat([]api.Named{named("a", linear("", "", 0))}, api.MaxText+1)
	symbols[0].Value.Number = math.MaxInt
	e := []api.ExprNode{number(7), name("a"), binary(api.ExprDiv, 0, 1), binary(api.ExprDiv, 0, 3)}
	expectValue(t, e, symbols, api.Linear{}, failed(api.ErrMalformed, 3))
	expectValue(t, e[:3], symbols, api.Linear{}, failed(api.ErrTooMany, -2))
	expectValue(t, e[:3], symbols[:api.MaxText], api.Linear{}, failed(api.ErrRange, -10))
	expectValue(t, e[:3], symbols[1:], api.Linear{}, failed(api.ErrRange, 2))
	expectValue(t, e[:2], symbols[1:], linear("", "", 0), none)
}

// TestValueManySymbols has as many symbols as are permitted, and more, which are rejected whatever they are.
func TestValueManySymbols(t *testing.T) {
	e := []api.ExprNode{name("last")}
	symbols := slices.Repeat([]api.Named{named("a", linear("b", "", 1))}, api.MaxText+1)
	symbols[api.MaxText-1] = named("last", linear("", "c", 3))
	symbols[api.MaxText] = named("last", linear("", "", 4))
	expectValue(t, e, symbols[:api.MaxText], linear("", "c", 3), none)
	expectValue(t, e, symbols, api.Linear{}, failed(api.ErrTooMany, -2))
	expectValue(t, e, make([]api.Named, api.MaxText+1), api.Linear{}, failed(api.ErrTooMany, -2))
	expectValue(t, e, make([]api.Named, api.MaxText), api.Linear{}, failed(api.ErrName, -10))
	symbols[api.MaxText-1].Name = ""
	expectValue(t, e, symbols[:api.MaxText], api.Linear{}, failed(api.ErrName, -10-(api.MaxText-1)))
}

// wrongSymbols are invalid symbols, with their error codes.
func wrongSymbols() map[int][]api.Named {
	all := map[int][]api.Named{}
	for _, text := range wrongNames() {
		all[api.ErrName] = append(all[api.ErrName], named(text, linear("", "", 0)), named(text, linear("b", "b", math.MaxInt)))
		if text != "" {
			all[api.ErrName] = append(all[api.ErrName], named("a", linear(text, "", 0)), named("a", linear("", text, 0)), named("a", linear(text, "b", 0)),
				named("a", linear("b", text, 0)), named("a", linear(text, text, 0)), named("a", linear(text, "", math.MinInt)), named("a", linear("", text, math.MaxInt)))
		}
	}
	for _, n := range []int{api.MaxExprSize + 1, -api.MaxExprSize - 1, 1 << 41, math.MaxInt, math.MinInt} {
		all[api.ErrRange] = append(all[api.ErrRange], named("a", linear("", "", n)), named("a", linear("b", "", n)), named("a", linear("b", "c", n)), named("a", linear("b", "b", n)))
	}
	for _, text := range []string{"a", "b", "$", longName} {
		all[api.ErrRange] = append(all[api.ErrRange], named("a", linear(text, text, 0)), named("a", linear(text, text, 7)))
	}
	return all
}

// TestValueRejectsSymbols puts each invalid symbol behind valid ones, and in front of other invalid ones, though the expression does not use it.
func TestValueRejectsSymbols(t *testing.T) {
	good := named("a", linear("b", "c", -1))
	for code, symbols := range wrongSymbols() {
		for _, wrong := range symbols {
			for _, e := range [][]api.ExprNode{{number(1)}, {name("a")}, {name("z"), binary(api.ExprMul, 0, 0)}} {
				expectValue(t, e, []api.Named{wrong}, api.Linear{}, failed(code, -10))
				expectValue(t, e, []api.Named{good, wrong, {}, wrong}, api.Linear{}, failed(code, -11))
				expectValue(t, e, append(slices.Repeat([]api.Named{good}, 9), wrong), api.Linear{}, failed(code, -19))
			}
		}
	}
}

// oracleValues evaluates all nodes one by one.
func oracleValues(e []api.ExprNode, symbols map[string]api.Linear) (api.Linear, api.Fault) {
	values := make([]api.Linear, len(e))
	for k, node := range e {
		value, known := symbols[node.Name]
		code := api.OK
		switch {
		case node.Kind == api.ExprNumber:
			value = linear("", "", node.Value)
		case node.Kind == api.ExprName && !known:
			value = linear(node.Name, "", 0)
		case node.Kind != api.ExprName:
			value, code = oracleOperation(node.Kind, values[node.Left], values[node.Right])
		}
		if code != api.OK {
			return api.Linear{}, failed(code, k)
		}
		values[k] = value
	}
	return values[len(e)-1], none
}

// TestValueNodes compares expressions with many nodes, of which many have a value, with the oracle.
func TestValueNodes(t *testing.T) {
	r := rand.New(rand.NewSource(5))
	known := map[string]api.Linear{"a": linear("", "", 3), "b": linear("s", "", 0), "c": linear("", "", -40)}
	symbols := []api.Named{named("a", known["a"]), named("b", known["b"]), named("c", known["c"])}
	defined := 0
	for range 30_000 {
		e := randomNodes(r, 1+r.Intn(8))
		want, fault := oracleValues(e, known)
		expectValue(t, e, symbols, want, fault)
		if fault == none {
			defined++
		}
	}
	if defined < 5000 {
		t.Errorf("only %d values", defined)
	}
	expectValue(t, manyNodes(api.MaxExpr), nil, linear("", "", -1), none)
}
