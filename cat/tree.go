package cat

// The kinds of statements.
const (
	kindLet = iota + 1
	kindRec
	kindAcyclic
	kindIrreflexive
	kindEmpty
)

// statement is a `let` or a `let rec`, with a part for each name that it gives,
// or a check, with one part.
type statement struct {
	kind  int
	parts []part
}

// part is an expression, and the name that it has, by `let` or by `as`.
type part struct {
	name   string
	at     int // of a name that is given: where it stands
	number int // of a name that is given: where it stands among the model's names
	value  *node
}

func (s statement) isCheck() bool {
	return s.kind != kindLet && s.kind != kindRec
}

// wantsRelation tells whether its expressions must be relations.
func (s statement) wantsRelation() bool {
	return s.kind == kindRec || s.kind == kindAcyclic || s.kind == kindIrreflexive
}

// The kinds of nodes.
const (
	nodeName = iota + 1
	nodeZero
	nodeRound  // ( )
	nodeSquare // [ ]
	nodeUnion
	nodeMeet
	nodeMinus
	nodeSeq
	nodeCross
	nodePlus
	nodeStar
	nodeMaybe
	nodeInverse
)

// node is an expression. What has one part has it on the left. Round brackets
// are nodes too, as a fault of what they are around is told at them, one of a
// name within them at that.
type node struct {
	kind        int
	at          int // where its first word begins
	left, right *node
	text        string // of a name
	number      int    // of a name: where it stands among the model's names
	set         bool   // whether it is a set, else it is a relation
}
