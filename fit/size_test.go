package fit_test

import (
	"slices"
	"strconv"
	"testing"

	"spandrel/api"
	"spandrel/expr"
	"spandrel/link"
	"spandrel/relax"
)

// As many items as a unit may have, and as many units as a program; addresses past 32 bits.

// 64 units of 8191 jumps to the unit's end.
func TestManyJumps(t *testing.T) {
	t.Parallel()
	units := make([]api.Unit, 64)
	for n := range units {
		units[n].Text = append(slices.Repeat([]api.Item{jump(expr.Named("a"))}, 8191), label("a"))
	}
	p := program(units...)
	all := 64 * 8191
	fails(t, p, 0, same(1, all)...)
	fits(t, p, same(2, all)...)
	fits(t, p, same(4, all)...)
	chosen, _, _ := relax.Relax(p)
	fits(t, p, chosen...)
	// The last that has two bytes.
	chosen[all-65] = 1
	fails(t, p, all-65, chosen...)
	many(t, p)
}

// full answers a program that has as many items as there may be: in each unit a label ahead of the others, in each eighth one
// a jump to the next unit's label, and else but the item between.
func full(between api.Item) *link.Program {
	units := make([]api.Unit, 64)
	for n := range units {
		name := "u" + strconv.Itoa(n)
		units[n] = api.Unit{Text: append([]api.Item{label(name)}, slices.Repeat([]api.Item{between}, 8191)...), Globals: []string{name}}
		if n%8 == 0 {
			units[n].Text[1] = jump(expr.Named("u" + strconv.Itoa(n+1)))
		}
	}
	return program(units...)
}

func TestFullPrograms(t *testing.T) {
	t.Parallel()
	// The displacements are 8190, by whatever forms.
	p := full(api.Item{Kind: api.Code, Inst: api.Inst{Op: 1}})
	fails(t, p, 0, same(1, 8)...)
	fits(t, p, same(2, 8)...)
	counts(t, p, 256)
	least(t, p, same(2, 8)...)
	// 8190 aligns, which take nothing once the first has brought the address to its multiple.
	p = full(api.Item{Kind: api.Align, N: 256})
	fails(t, p, 0, 1, 2, 2, 2, 2, 2, 2, 2)
	fails(t, p, 7, 2, 2, 2, 2, 2, 2, 2, 1)
	counts(t, p, 256)
	least(t, p, same(2, 8)...)
	p = full(api.Item{Kind: api.Align, N: 128})
	counts(t, p, 6561)
	least(t, p, same(1, 8)...)
}

// Displacements of about 2^15, over one another.
func TestFarOverOneAnother(t *testing.T) {
	over := func(bytes int) *link.Program {
		return program(api.Unit{Text: slices.Concat(
			[]api.Item{label("a"), jump(named("b", 0))}, filler(bytes), []api.Item{jump(named("a", 0)), label("b")},
		)})
	}
	// By 2 and 2 there are as many bytes and 3 between, and 3 more for the one that goes back.
	p := over(32762)
	fits(t, p, 2, 2)
	fails(t, p, 0, 1, 2)
	fails(t, p, 1, 4, 2)
	fits(t, p, 2, 4)
	counts(t, p, 3)
	least(t, p, 2, 2)
	agrees(t, p)
	p = over(32763)
	fails(t, p, 1, 2, 2)
	fails(t, p, 0, 2, 4)
	counts(t, p, 1)
	least(t, p, 4, 4)
	agrees(t, p)
}

// A target beyond 2^32 bytes, which is reckoned modulo 2^32: 64 * 8190 * 2^20 is 2^32 less 2^27, many times round.
func TestGreatestSpaces(t *testing.T) {
	t.Parallel()
	units := make([]api.Unit, 64)
	for n := range units {
		units[n].Data = slices.Repeat([]api.Item{{Kind: api.Space, N: api.MaxImage}}, 8190)
	}
	units[63].Data = append(units[63].Data, label("x"))
	for _, c := range []struct{ more, form int }{{0, 4}, {1 << 27, 1}, {1<<27 + 200, 2}} {
		units[63].Text = []api.Item{jump(named("x", c.more))}
		holdsFrom(t, program(units...), c.form)
	}
}

// Targets of very many terms.
func TestManyTerms(t *testing.T) {
	const labels = 4000
	var u api.Unit
	var sum api.Lin
	at := uint32(0)
	for i := range labels {
		name := "x" + strconv.Itoa(10000+i)
		u.Text = append(u.Text, label(name))
		u.Text = append(u.Text, filler(1)...)
		sum.Terms = append(sum.Terms, api.Term{Name: name, Coef: uint32(1000003 * (i + 1))})
		at += uint32(i) * uint32(1000003*(i+1))
	}
	for _, far := range []int{0, 127, 129, -128, -129, 32767, 32771, -32770} {
		// The displacement by form 1; the labels lie ahead of the jump, which moves none of them.
		sum.Const = uint32(labels+2+far) - at
		holdsFrom(t, program(api.Unit{Text: append(slices.Clone(u.Text), jump(sum))}), formOf(far))
	}
}
