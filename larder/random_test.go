package larder_test

import (
	"math/rand"
	"slices"
	"testing"

	"larder/api"
	"larder/larder"
)

// temper says what commands a run draws.
type temper struct {
	name  string
	runs  int
	steps int
	ids   int // how many Ids there are to draw from
	least int // the least and the greatest quantity
	most  int
	ticks int // the most ticks of a Tick
	kinds []int
	first []api.Command // done 995 times over, ahead of what is drawn
}

var tempers = []temper{
	{"ordinary", 10, 300, 1 << 30, 1, 20, 8, []int{1, 2, 3, 3, 4, 4, 4, 4, 5, 6, 7, 8}, nil},
	{"few Ids", 10, 300, 14, 1, 9, 4, []int{1, 2, 3, 4, 4, 5, 6, 7, 8}, nil},
	{"many holds", 10, 300, 1 << 30, 1, 3, 2, []int{1, 1, 3, 3, 4, 4, 4, 4, 4, 4, 5, 6, 8}, nil},
	{"short of stock", 10, 300, 1 << 30, 1, 40, 30, []int{2, 3, 3, 3, 4, 4, 4, 5, 6, 7, 7, 8}, nil},
	{"great numbers", 3, 200, 1 << 30, 999990, 1000000, 1000, []int{1, 1, 7, 7, 2, 2, 3, 3, 4, 8}, []api.Command{receive(0, 1000000), plan(0, 15, 1000000), allot(0, 0, 1000000), adjust(1, -1000000), tick(1000)}},
}

// draw has now and then a command of the last ones, as it was or a little changed (perhaps to a wrong one).
func (k temper) draw(r *rand.Rand, past []api.Command) api.Command {
	if len(past) > 0 && r.Intn(5) == 0 {
		c := past[max(0, len(past)-1-r.Intn(14))]
		if r.Intn(3) == 0 {
			*allFields[r.Intn(len(allFields))](&c) += r.Intn(3) - 1
		}
		return c
	}
	good := r.Intn(4) / (1 + r.Intn(4)) // mostly 0, so that bounds are come to
	channel := r.Intn(3) / (1 + r.Intn(2))
	day := []int{0, 15, r.Intn(16)}[r.Intn(3)]
	quantity := k.least + r.Intn(k.most-k.least+1)
	var c api.Command
	switch k.kinds[r.Intn(len(k.kinds))] {
	case 1:
		c = receive(good, quantity)
	case 2:
		c = plan(good, day, quantity)
	case 3:
		c = allot(good, channel, quantity)
	case 4:
		c = promise(good, channel, day, quantity, 1+r.Intn(min(1000, 3*k.ticks)))
	case 5:
		c = commit(1 + r.Intn(61))
	case 6:
		c = release(1 + r.Intn(61))
	case 7:
		c = adjust(good, quantity-r.Intn(2)*2*quantity)
	case 8:
		c = tick(1 + r.Intn(k.ticks))
	}
	return withId(r.Intn(k.ids), c)
}

// tally counts what was answered.
type tally struct {
	errors map[api.Errno]int
	again  int
}

// TestAgainstTheModel draws from fixed seeds, and holds each answer against the document's ledger written out a second time.
func TestAgainstTheModel(t *testing.T) {
	seen := &tally{errors: map[api.Errno]int{}}
	for _, k := range tempers {
		for seed := range k.runs {
			k.run(t, int64(seed), seen)
		}
	}
	for _, e := range []api.Errno{api.OK, api.ErrArg, api.ErrMany, api.ErrStock, api.ErrShare, api.ErrNone, api.ErrOver, api.ErrTime} {
		if seen.errors[e] < 20 {
			t.Errorf("only %d answers were %d: the draws are too tame", seen.errors[e], e)
		}
	}
	if seen.again < 100 {
		t.Errorf("only %d commands were sent again", seen.again)
	}
}

func (k temper) run(t *testing.T, seed int64, seen *tally) {
	t.Helper()
	r := rand.New(rand.NewSource(seed))
	l, m := larder.New(), &model{}
	for i, c := range k.first {
		for n := range 995 {
			c.Id = 1000*i + n
			l.Do(c)
			m.accepted, m.answers = append(m.accepted, c), append(m.answers, api.Answer{})
		}
	}
	var past []api.Command
	was := pictureOf(t, l)
	for step := range k.steps {
		if seed%2 == 1 && step%25 == 0 { // one that was opened goes on as well
			l = mustOpen(t, l.Journal())
		}
		c := k.draw(r, past)
		accepted := len(m.accepted)
		want := m.do(c)
		if a := l.Do(c); a != want {
			t.Fatalf("%s, seed %d, step %d: Do(%+v) = %+v, want %+v", k.name, seed, step, c, a, want)
		}
		p := pictureOf(t, l)
		if why := p.unlike(m.picture()); why != "" {
			t.Fatalf("%s, seed %d, step %d: behind Do(%+v): %s", k.name, seed, step, c, why)
		}
		checkPromises(t, p, m.accepted)
		checkEndsOnce(t, was, p)
		was = p
		seen.errors[want.Err]++
		if want.Err == api.OK && len(m.accepted) == accepted {
			seen.again++
		}
		past = append(past, c)
	}
}

// checkPromises: no more is promised than there is to come, unless by an Adjust downwards, and no channel promises more than its share.
func checkPromises(t *testing.T, p picture, accepted []api.Command) {
	t.Helper()
	for g := range 4 {
		down := slices.ContainsFunc(accepted, func(c api.Command) bool { return c.Kind == 7 && c.Good == g && c.Quantity < 0 })
		if !down && slices.Min(p.atp[g][:]) < 0 {
			t.Fatalf("P10: of good %d more is promised than there is: %v", g, p.atp[g])
		}
		if slices.Min(p.free[g][:]) < 0 {
			t.Fatalf("P10: of good %d a channel promises more than its share: %v", g, p.free[g])
		}
	}
}

// checkEndsOnce: a hold that is no longer open stays as it is, and of an open one nothing changes but its state.
func checkEndsOnce(t *testing.T, was, is picture) {
	t.Helper()
	if is.made < was.made {
		t.Fatalf("P10: of %d holds %d are left", was.made, is.made)
	}
	for i, h := range was.holds[:was.made] {
		if h.State == api.Open {
			h.State = is.holds[i].State
		}
		if is.holds[i] != h {
			t.Fatalf("P10: hold %d was %+v, and is %+v", i+1, was.holds[i], is.holds[i])
		}
	}
}
