package cand

import (
	"slices"

	"belated/api"
	"belated/bits"
	"belated/uir"
)

// run is the Run of a row that was gone through; false, if a branch goes
// another way than its path (e).
func (p *play) run() (api.Run, bool) {
	r := api.Run{Paths: p.picks, Sources: p.sources()}
	for thread, code := range p.test.Code {
		out, events, path, e := uir.Local(code, p.test.Regs[thread], p.reads(thread)...)
		if e != api.OK || !slices.Equal(path, p.paths[thread]) {
			return api.Run{}, false
		}
		for _, ev := range events {
			ev.Thread = thread
			r.Events = append(r.Events, ev)
		}
		r.Outcome.Regs[thread] = out
	}
	r.Outcome.Mem = p.test.Init
	for _, w := range p.order[:p.wrote] {
		r.Order = append(r.Order, p.ops[w].event)
		loc := p.ops[w].ins.Loc
		r.Outcome.Mem[loc] = bits.Blend(r.Outcome.Mem[loc], p.news[w], p.masks[w])
	}
	return r, true
}

// reads is what the reads of a thread came to, along its path.
func (p *play) reads(thread int) []int {
	var olds []int
	for _, o := range p.ops {
		if o.thread == thread && uir.Reads(o.ins) {
			olds = append(olds, p.olds[thread][o.place])
		}
	}
	return olds
}

// sources is where all bytes that are read come from, by the events' numbers.
func (p *play) sources() []api.Source {
	var list []api.Source
	for k, o := range p.ops {
		if !uir.Reads(o.ins) {
			continue
		}
		for b := range window {
			if p.masks[k]>>b&1 == 1 {
				list = append(list, api.Source{Event: o.event, Byte: b, From: p.eventOf(p.from[k][b])})
			}
		}
	}
	return list
}

// eventOf is the number of an operation's event, of a source that is Init too.
func (p *play) eventOf(k int) int {
	if k == nowhere {
		return nowhere
	}
	return p.ops[k].event
}
