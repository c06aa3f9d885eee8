package unit

import (
	"errors"
	"slices"

	"spandrel/api"
	"spandrel/item"
	"spandrel/lex"
	"spandrel/line"
)

// assembly is a unit in the making.
type assembly struct {
	unit    api.Unit
	section int
	// given holds the names of labels and equs.
	given map[string]struct{}
	// asked are the lines `global`; whether their names are given is known behind the last line only.
	asked []asking
}

// asking is a name that other units may know, and the line that says so.
type asking struct {
	name string
	line int
}

// at wraps the number that err is, if it is one, with the line where it was met.
func at(n int, err error) error {
	var why api.Errno
	if errors.As(err, &why) {
		return &Refusal{Line: n, Why: why}
	}
	return err
}

// take puts what the line s with the number n says into the unit, or answers the number with which it is refused.
func (a *assembly) take(n int, s string) error {
	l, _, why := line.Parse(s)
	if why != api.OK {
		return why
	}
	if l.Label != "" && !lex.Legal(l.Label) {
		return api.ErrBad
	}
	x, why := item.Read(l, a.section)
	if why != api.OK {
		return why
	}
	if !a.name(l.Label) || x.Kind == item.Equ && !a.name(x.Name) {
		return api.ErrDup
	}
	if !a.lay(labelled(l.Label, x.Items)) {
		return api.ErrMany
	}
	a.note(n, x)
	return nil
}

// name remembers that the name is given, if it is one at all; false, if it was given ahead.
func (a *assembly) name(name string) bool {
	if name == "" {
		return true
	}
	if _, ok := a.given[name]; ok {
		return false
	}
	a.given[name] = struct{}{}
	return true
}

// labelled answers items with that label ahead of them, if it is one at all.
func labelled(label string, items []api.Item) []api.Item {
	if label == "" {
		return items
	}
	return append([]api.Item{{Kind: api.Label, Name: label}}, items...)
}

// lay puts items behind those of the section that holds; false, if the unit would have too many.
func (a *assembly) lay(items []api.Item) bool {
	if len(a.unit.Text)+len(a.unit.Data)+len(items) > api.MaxItems {
		return false
	}
	if a.section == item.Data {
		a.unit.Data = append(a.unit.Data, items...)
	} else {
		a.unit.Text = append(a.unit.Text, items...)
	}
	return true
}

// note remembers what line n says beside its label and its items.
func (a *assembly) note(n int, x item.Thing) {
	switch x.Kind {
	case item.Equ:
		a.unit.Equs = append(a.unit.Equs, api.Equ{Name: x.Name, E: x.E})
	case item.Global:
		a.asked = append(a.asked, asking{name: x.Name, line: n})
	case item.Section:
		a.section = x.Section
	}
}

// unknown answers the line of the first `global` whose name nobody gives.
func (a *assembly) unknown() (int, bool) {
	for _, g := range a.asked {
		if _, ok := a.given[g.name]; !ok {
			return g.line, true
		}
	}
	return 0, false
}

// whole answers the unit, when all lines are taken.
func (a *assembly) whole() api.Unit {
	u := a.unit
	for _, g := range a.asked {
		u.Globals = append(u.Globals, g.name)
	}
	slices.Sort(u.Globals)
	u.Globals = slices.Compact(u.Globals)
	return u
}
