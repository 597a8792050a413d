package expr

import (
	"linkhouse/api"
)

// Signs that belong to no kind of nodes.
const (
	opening = "("
	closing = ")"
)

// traits are what the nodes of a kind have: the number of their children, their sign, and how tightly a binary sign binds.
type traits struct {
	children int
	sign     string
	binding  int
}

// The least binding of a sign, and a binding that no sign has.
const (
	loosest = 1
	unbound = 0
)

// kinds are the traits of the kinds of nodes. The kind 0 is unknown.
var kinds = [...]traits{
	api.ExprNumber: {0, "", unbound},
	api.ExprName:   {0, "", unbound},
	api.ExprNegate: {1, "-", unbound},
	api.ExprInvert: {1, "~", unbound},
	api.ExprOr:     {2, "|", loosest},
	api.ExprXor:    {2, "^", 2},
	api.ExprAnd:    {2, "&", 3},
	api.ExprLeft:   {2, "<<", 4},
	api.ExprRight:  {2, ">>", 4},
	api.ExprAdd:    {2, "+", 5},
	api.ExprSub:    {2, "-", 5},
	api.ExprMul:    {2, "*", 6},
	api.ExprDiv:    {2, "/", 6},
	api.ExprRest:   {2, "%", 6},
}

func isKnown(kind int) bool {
	return kind > 0 && kind < len(kinds)
}

// children returns the positions of the children that the kind of a node, which is known, requires.
func children(node api.ExprNode) []int {
	both := []int{node.Left, node.Right}
	return both[:kinds[node.Kind].children]
}

// kindOf returns the kind of the nodes with a sign that have a number of children, which is not 0, or the kind 0 if there is none.
func kindOf(sign string, children int) int {
	for kind, t := range kinds {
		if t.children == children && t.sign == sign {
			return kind
		}
	}
	return 0
}
