// Package ops has names for the Ops of nodes, which the chapters of layers 10, 11, 12 and 20 tell by their numbers: see shared/doc/10-ir.md. (Those of instructions stand in api.)
package ops

// The Ops.
const (
	Int    = 1 + iota // the Int N into Dst
	Bool              // the Bool N
	Copy              // A into Dst
	Reckon            // A and B reckoned by N, one of api's OpAdd to OpSame
	Not               // not A
	Pair              // the Pair of A and B
	First             // the first of A
	Second            // the second
	Close             // the Fun of the function N that captures Args
	Self              // the Fun that runs
	Call              // A called with B
	New               // a Ref to a new cell of T that holds A
	Get               // what A's cell holds
	Set               // A's cell holds B then
	Out               // A told on the label N
	If                // Body, if A, else Else
	Try               // Body; if that raises, that into Dst, then Else
	Raise             // A raised
)
