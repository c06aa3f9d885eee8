package pool_test

import (
	"strconv"
	"testing"

	"spandrel/api"
	"spandrel/expr"
	"spandrel/pool"
)

// As many items as a unit may have, and as many units as a program.

func load(x api.Lin) api.Item {
	return api.Item{Kind: api.Code, Inst: api.Inst{Op: 39, A: 1}, E: x}
}

// places are some of the numbers below 8192.
func places() []int {
	return []int{0, 1, 2, 9, 10, 11, 99, 100, 4095, 4096, 8190, 8191}
}

func TestManyLoadsOfOneLiteral(t *testing.T) {
	var u api.Unit
	for range 8192 {
		u.Text = append(u.Text, load(expr.Of(5)))
	}
	p := program(u)
	l := pool.Pools(p)
	if len(l) != 1 || !samePool(l[0], at(0, 8192, "5")) {
		t.Errorf("%s", short(l))
	}
	for _, i := range places() {
		lies(t, p, 0, i, 0, 0)
	}
	noLoad(t, p, 0, 8192)
}

func TestAsManyLiteralsAsLoads(t *testing.T) {
	var u api.Unit
	for i := range 8192 {
		u.Text = append(u.Text, load(expr.Of(uint32(7*i))))
	}
	p := program(u)
	l := pool.Pools(p)
	if len(l) != 1 || l[0].Item != 8192 || len(l[0].Literals) != 8192 {
		t.Fatalf("%s", short(l))
	}
	for i, x := range l[0].Literals {
		if !expr.Same(x, expr.Of(uint32(7*i))) {
			t.Fatalf("literal %d: %+v", i, x)
		}
	}
	for _, i := range places() {
		lies(t, p, 0, i, 0, i)
	}
}

func TestAsManyPoolsAsLoads(t *testing.T) {
	var u api.Unit
	for range 4096 {
		u.Text = append(u.Text, load(expr.Of(5)), api.Item{Kind: api.Pool})
	}
	p := program(u)
	l := pool.Pools(p)
	if len(l) != 4096 {
		t.Fatalf("%d pools", len(l))
	}
	for i, q := range l {
		if !samePool(q, at(0, 2*i+1, "5")) {
			t.Fatalf("pool %d: %+v", i, q)
		}
	}
	for _, i := range places() {
		if i%2 == 0 {
			lies(t, p, 0, i, i/2, 0)
		} else {
			noLoad(t, p, 0, i)
		}
	}
}

// 64 units with 8192 items each: every literal stands twice in each pool, and in each unit.
func TestAFullProgram(t *testing.T) {
	units := make([]api.Unit, 64)
	for n := range units {
		for i := range 8192 {
			if i%2048 == 2047 {
				units[n].Text = append(units[n].Text, api.Item{Kind: api.Pool})
				continue
			}
			x := expr.Add(expr.Of(uint32(i/2)), expr.Times(expr.Named("x"), uint32(i%4/2)))
			units[n].Text = append(units[n].Text, load(x))
		}
		units[n].Text = units[n].Text[:8191]
		units[n].Data = []api.Item{{Kind: api.Label, Name: "x"}}
	}
	p := program(units...)
	l := pool.Pools(p)
	if len(l) != 64*4 {
		t.Fatalf("%d pools", len(l))
	}
	for i, q := range l {
		if q.Unit != i/4 || q.Item != i%4*2048+2047 || len(q.Literals) != 1024 {
			t.Fatalf("pool %d: %d, %d, %d literals", i, q.Unit, q.Item, len(q.Literals))
		}
		for k, x := range q.Literals {
			want := api.Lin{Const: uint32(i%4*1024 + k)}
			if k%2 == 1 {
				want.Terms = []api.Term{{Name: "L" + strconv.Itoa(q.Unit), Coef: 1}}
			}
			if !expr.Same(x, want) {
				t.Fatalf("pool %d, literal %d: %+v, not %+v", i, k, x, want)
			}
		}
	}
	for _, n := range []int{0, 1, 31, 63} {
		lies(t, p, n, 0, 4*n, 0)
		lies(t, p, n, 2046, 4*n, 1023)
		lies(t, p, n, 2048, 4*n+1, 0)
		lies(t, p, n, 8190, 4*n+3, 1023)
		noLoad(t, p, n, 2047)
		noLoad(t, p, n, 8191)
	}
	noLoad(t, p, 64, 0)
}

// Literals of very many terms that differ in the last one alone.
func TestManyTerms(t *testing.T) {
	const labels, loads = 4000, 200
	var u api.Unit
	var sum api.Lin
	for i := range labels {
		name := "x" + strconv.Itoa(10000+i)
		u.Text = append(u.Text, api.Item{Kind: api.Label, Name: name})
		sum.Terms = append(sum.Terms, api.Term{Name: name, Coef: 1})
	}
	for i := range loads {
		u.Text = append(u.Text, load(expr.Add(sum, expr.Times(expr.Named("x13999"), uint32(i%20)))))
	}
	p := program(u)
	l := pool.Pools(p)
	if len(l) != 1 || l[0].Item != labels+loads || len(l[0].Literals) != 20 {
		t.Fatalf("%s", short(l))
	}
	for i := range 40 {
		lies(t, p, 0, labels+i, 0, i%20)
	}
	for i, x := range l[0].Literals {
		if len(x.Terms) != labels || x.Const != 0 {
			t.Errorf("literal %d: %d terms, %d", i, len(x.Terms), x.Const)
		}
	}
}
