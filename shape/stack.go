package shape

import "palisade/api"

// takes is how many values each Op takes off the stack; how many an OpClose does, hangs on the function that it names.
var takes = [...]int{
	api.OpStore:  1,
	api.OpPop:    1,
	api.OpAdd:    2,
	api.OpSub:    2,
	api.OpMul:    2,
	api.OpDiv:    2,
	api.OpMod:    2,
	api.OpLess:   2,
	api.OpSame:   2,
	api.OpNot:    1,
	api.OpPair:   2,
	api.OpFirst:  1,
	api.OpSecond: 1,
	api.OpCall:   2,
	api.OpNew:    1,
	api.OpGet:    1,
	api.OpSet:    2,
	api.OpOut:    1,
	api.OpUnless: 1,
	api.OpRaise:  1,
	api.OpReturn: 1,
}

// puts is how many values each Op puts on the stack.
var puts = [...]int{
	api.OpInt:    1,
	api.OpBool:   1,
	api.OpLoad:   1,
	api.OpAdd:    1,
	api.OpSub:    1,
	api.OpMul:    1,
	api.OpDiv:    1,
	api.OpMod:    1,
	api.OpLess:   1,
	api.OpSame:   1,
	api.OpNot:    1,
	api.OpPair:   1,
	api.OpFirst:  1,
	api.OpSecond: 1,
	api.OpClose:  1,
	api.OpSelf:   1,
	api.OpCall:   1,
	api.OpNew:    1,
	api.OpGet:    1,
	api.OpReturn: 0,
}
