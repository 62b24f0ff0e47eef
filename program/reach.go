package program

import (
	"slices"

	"redundancy/api"
	"redundancy/instr"
)

// Reach says for each instruction of a program whether it can be reached from
// the first one; nothing for a program that Check does not accept.
func Reach(p api.Program) []bool {
	if Check(p) != api.OK {
		return nil
	}
	reached := make([]bool, len(p.Code))
	reached[0] = true
	for todo := []int{0}; len(todo) > 0; {
		pc := todo[0]
		todo = todo[1:]
		if leadsAnywhere(p.Code[pc]) {
			return slices.Repeat([]bool{true}, len(p.Code))
		}
		for _, next := range instr.Targets(p.Code[pc], pc) {
			// The last instruction may go on behind the code, where nothing is.
			if next < len(p.Code) && !reached[next] {
				reached[next] = true
				todo = append(todo, next)
			}
		}
	}
	return reached
}

// leadsAnywhere reports whether an instruction takes a program counter from a
// register: what is in there is not known before the program runs.
func leadsAnywhere(i api.Instr) bool {
	switch i.Op {
	case api.OpJr:
		return true
	case api.OpSys:
		return i.Imm == api.SysSpawn || i.Imm == api.SysHandler
	}
	return false
}
