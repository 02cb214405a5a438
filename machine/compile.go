package machine

import (
	"bailment/api"
	"bailment/cause"
	"bailment/code"
	"bailment/flat"
	"bailment/inits"
	"bailment/names"
	"bailment/norm"
	"bailment/past"
	"bailment/types"
)

// Compile makes code of a program's node: of all its streams that flat.Make tells, some are told.
func Compile(p api.Prog, node string, told []string) (code.Code, api.Errno) {
	if fault := wrong(p); fault != api.OK {
		return code.Code{}, fault
	}
	streams, fault := flat.Make(p, node)
	if fault != api.OK {
		return code.Code{}, fault
	}
	var numbers []int
	for _, name := range told {
		i := flat.Find(streams, name)
		if i < 0 {
			return code.Code{}, api.ErrName
		}
		numbers = append(numbers, i)
	}
	// The numbers stay what they are: memories stand behind all streams, and
	// there is a root for each stream.
	free, fault := past.Free(streams)
	if fault != api.OK {
		return code.Code{}, fault
	}
	net, fault := norm.Make(free)
	if fault != api.OK {
		return code.Code{}, fault
	}
	return code.Make(net, numbers)
}

// wrong tells what is wrong of a program, whichever node is compiled.
func wrong(p api.Prog) api.Errno {
	whole, fault := names.Resolve(p)
	if fault.Code != api.OK {
		return fault.Code
	}
	for _, check := range []func(p api.Prog) api.Fault{types.Check, inits.Check, cause.Check} {
		if fault := check(whole); fault.Code != api.OK {
			return fault.Code
		}
	}
	return api.OK
}
