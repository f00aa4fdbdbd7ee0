package litmus

import (
	"strings"

	"belated/api"
	"belated/cond"
)

// Print writes a test.
func Print(t api.Test) (string, api.Errno) {
	if e := Check(t); e != api.OK {
		return "", e
	}
	l, _ := languageOf(t.Arch)
	lines := []string{l.title + " " + t.Name, start(t)}
	lines = append(lines, rows(l.columns(t.Code))...)
	lines = append(lines, quantifier(t.Quant)+" ("+written(t.Arch, t.Cond...)+")")
	return strings.Join(lines, "\n") + "\n", api.OK
}

// written is a right condition, for an architecture that there is.
func written(arch int, cs ...api.Cond) string {
	text, _ := cond.Print(arch, cs...)
	return text
}

// start is the line of what is set: each as the condition that says so.
func start(t api.Test) string {
	text := opening + " "
	for _, c := range settings(t) {
		if c.Value != 0 {
			text += written(t.Arch, c) + behind + " "
		}
	}
	return text + closing
}

// settings is what all locations and registers hold at first.
func settings(t api.Test) []api.Cond {
	var all []api.Cond
	for loc, value := range t.Init {
		all = append(all, api.Cond{Kind: api.CondLoc, Loc: loc, Value: value})
	}
	for thread, regs := range t.Regs {
		for reg, value := range regs {
			all = append(all, api.Cond{Kind: api.CondReg, Thread: thread, Reg: reg, Value: value})
		}
	}
	return all
}

// columns is the cells of the threads, the head's among them.
func (l language) columns(codes [][]api.Ins) [][]string {
	var all [][]string
	for thread, code := range codes {
		all = append(all, append([]string{threadName(thread)}, l.cells(code)...))
	}
	return all
}

// cells is those of a right code.
func (l language) cells(code []api.Ins) []string {
	goals := goalsOf(code)
	var all []string
	for k, i := range code {
		text, _ := l.print(i, labelOf(i.To))
		if goals[k] {
			text = labelOf(k) + labelMark + " " + text
		}
		all = append(all, text)
	}
	if end := len(code); goals[end] {
		all = append(all, labelOf(end)+labelMark)
	}
	return all
}

// goalsOf is, by index, whether a branch of a right code goes there.
func goalsOf(code []api.Ins) [api.MaxCode + 1]bool {
	var goals [api.MaxCode + 1]bool
	for _, i := range code {
		if i.Op == api.OpBranch {
			goals[i.To] = true
		}
	}
	return goals
}

// rows is the lines of the columns' cells: as many as the longest has.
func rows(columns [][]string) []string {
	longest := 0
	for _, cells := range columns {
		longest = max(longest, len(cells))
	}
	var lines []string
	for n := range longest {
		row := make([]string, len(columns))
		for k, cells := range columns {
			if n < len(cells) {
				row[k] = cells[n]
			}
		}
		lines = append(lines, strings.Join(row, " "+between+" ")+" "+behind)
	}
	return lines
}
