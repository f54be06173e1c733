package granule

import "granule/api"

const maxByte = 255

func validProgram(p api.Program) bool {
	if !validConf(p.Conf) {
		return false
	}
	if len(p.Data) > api.MaxData || len(p.Data) > p.Conf.Static*api.Granule {
		return false
	}
	if !within(len(p.Code), 1, api.MaxCode) {
		return false
	}
	for i := 0; i < len(p.Code); i++ {
		if !validInstr(p.Code[i], len(p.Code)) {
			return false
		}
	}
	return true
}

// validInstr judges an instruction of a program that has so many of them.
func validInstr(x api.Instr, count int) bool {
	given := [3]int{x.A, x.B, x.C}
	kinds := operands(x.Op)
	if len(kinds) != len(given) {
		return false
	}
	for i := 0; i < len(given); i++ {
		if !validOperand(kinds[i], given[i], count) {
			return false
		}
	}
	return true
}

// operands has the letters of P16's table for A, B and C; it is empty for an operation that is none.
func operands(op int) string {
	switch op {
	case api.OpHalt, api.OpIn, api.OpOut, api.OpFree:
		return "RZZ"
	case api.OpSet, api.OpBase:
		return "RBB"
	case api.OpAdd, api.OpSub, api.OpLess, api.OpSame, api.OpRealloc, api.OpMove:
		return "RRR"
	case api.OpJump:
		return "TZZ"
	case api.OpZero:
		return "RTZ"
	case api.OpMalloc, api.OpUsable:
		return "RRZ"
	case api.OpLoad, api.OpByte, api.OpStore, api.OpPut:
		return "RRB"
	}
	return ""
}

func validOperand(kind byte, n int, count int) bool {
	top := 0
	switch kind {
	case 'R':
		top = api.Regs - 1
	case 'B':
		top = maxByte
	case 'T':
		top = count - 1
	}
	return within(n, 0, top)
}
