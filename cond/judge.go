package cond

import (
	"slices"

	"belated/api"
)

// Less: does a come ahead of b?
func Less(a, b api.Outcome) bool {
	return compare(a, b) < 0
}

// compare is below 0, if a comes ahead of b; 0, if they are alike.
func compare(a, b api.Outcome) int {
	for thread := range api.MaxThreads {
		if n := slices.Compare(a.Regs[thread][:], b.Regs[thread][:]); n != 0 {
			return n
		}
	}
	return slices.Compare(a.Mem[:], b.Mem[:])
}

// Sort is outcomes in their order, each once.
func Sort(os ...api.Outcome) []api.Outcome {
	sorted := slices.Clone(os)
	slices.SortFunc(sorted, compare)
	return slices.Compact(sorted)
}

// Judge: what a quantifier says of outcomes.
func Judge(quant int, cs []api.Cond, os ...api.Outcome) (api.Verdict, api.Errno) {
	if quant != api.Exists && quant != api.NotExists && quant != api.Forall {
		return api.Verdict{}, api.ErrArg
	}
	if !Right(cs...) {
		return api.Verdict{}, api.ErrForm
	}
	states := Sort(os...)
	at := slices.IndexFunc(states, func(o api.Outcome) bool {
		return holds(o, cs) == (quant != api.Forall)
	})
	v := api.Verdict{States: len(states), Witness: at >= 0}
	v.Holds = v.Witness == (quant == api.Exists)
	if v.Witness {
		v.Outcome = states[at]
	}
	return v, api.OK
}
