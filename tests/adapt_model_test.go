package tests

import (
	"fmt"
	"slices"
	"testing"

	"loop.example/s01685/impl"
)

// modelFront is chapter 8's front end. One model answers for both engines: a move is nothing that it could see.
type modelFront struct {
	*modelEngine
	pol         impl.Policy
	live, moves int
	last        *int // nil is nothing
	near        int
}

func newFront(t *testing.T, hcap int, pol impl.Policy) *modelFront {
	f := &modelFront{modelEngine: newModel(t, hcap), pol: pol}
	f.plain = true
	return f
}

// step answers an operation and does what follows it.
func (f *modelFront) step(op impl.Op) impl.Obs {
	o := f.modelEngine.step(op)
	changed := o.Code == impl.OK && o.X > 0
	switch {
	case op.Kind == 15 && op.A == 0:
		f.moveTo(0)
	case op.Kind == 15 && op.A == 1:
		f.moveTo(1)
	case op.Kind == 15:
		f.moveTo(1 - f.live)
	case op.Kind == 1 && changed:
		f.edited(op.A, op.A+o.X)
	case op.Kind == 2 && changed:
		f.edited(op.A, op.A)
	case (op.Kind == 9 || op.Kind == 10 || op.Kind == 14) && o.Code == impl.OK:
		f.last, f.near = nil, 0
		f.choose()
	}
	return o
}

func (f *modelFront) moveTo(live int) {
	if f.live != live {
		f.live, f.near = live, 0
		f.moves++
	}
}

func (f *modelFront) edited(p, end int) {
	distance := 0
	if f.last != nil {
		distance = p - *f.last
	}
	if distance < 0 {
		distance = -distance
	}
	if f.last != nil && distance <= f.pol.Near {
		f.near++
	} else {
		f.near = 0
	}
	f.last = &end
	f.choose()
}

func (f *modelFront) choose() {
	if len(f.text) >= f.pol.Big {
		f.moveTo(0)
	} else if f.near >= f.pol.Run {
		f.moveTo(1)
	}
}

// wantAdapted holds the front end's observations, what is live and the moves against the model, and the observations
// against those of both engines too. It tells what the front end answered.
func wantAdapted(t *testing.T, what string, script []impl.Op, hcap int, pol impl.Policy) impl.AdaptOut {
	t.Helper()
	f := newFront(t, hcap, pol)
	var want []impl.Obs
	var live []int
	for _, op := range script {
		want = append(want, f.step(op))
		live = append(live, f.live)
	}
	what = fmt.Sprintf("%s, cap %d, policy %v", what, hcap, pol)
	got := impl.RunAdaptive(script, hcap, pol)
	wantAllObs(t, what, script, got.Obs, want)
	if !slices.Equal(got.Live, live) || got.Moves != f.moves || got.Code != impl.OK {
		t.Errorf("%s: live %v, moves %d, code %d, want %v, %d", what, short(got.Live), got.Moves, got.Code, short(live), f.moves)
	}
	both := runBoth(script, hcap)
	wantAllObs(t, what+", as the pieces", script, got.Obs, both.piece.Obs)
	wantAllObs(t, what+", as the lines", script, got.Obs, both.line.Obs)
	return got
}

// policies are ones of every form: that always want an engine, never choose, and choose now and then.
func policies() []impl.Policy {
	list := []impl.Policy{{}, {Big: 1000, Near: 20, Run: 4}, {Big: 99999, Near: 5, Run: 0}, {Big: 12, Near: 3, Run: 1}, {Big: 20, Near: 9999, Run: 2},
		{Big: 8, Near: 0, Run: 0}, {Big: 1, Near: -1, Run: 1}, {Big: 15, Near: 8, Run: -3}, stay}
	for k, x := range extremes {
		y := extremes[(k+1)%len(extremes)]
		list = append(list, impl.Policy{Big: x, Near: 4, Run: 1}, impl.Policy{Big: 14, Near: x, Run: 1}, impl.Policy{Big: 14, Near: 4, Run: x},
			impl.Policy{Big: x, Near: y, Run: x}, impl.Policy{Big: y, Near: y, Run: x})
	}
	return list
}

// stay is a policy by which nothing is ever moved, but by Moves.
var stay = impl.Policy{Big: 1 << 62, Near: -1, Run: 1 << 62}
