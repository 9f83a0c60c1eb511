package pace_test

import (
	"math"
	"testing"

	"entrepot/api"
	"entrepot/pace"
)

func TestFits(t *testing.T) {
	for _, x := range []struct {
		tries, wait int
		want        bool
	}{{1, 0, true}, {api.MaxTries, api.MaxNum, true}, {0, 0, false}, {api.MaxTries + 1, 0, false}, {1, -1, false}, {1, api.MaxNum + 1, false}, {math.MinInt, math.MaxInt, false}} {
		if pace.Fits(x.tries, x.wait) != x.want {
			t.Error(x)
		}
	}
}

func TestOneCallAfterTheOther(t *testing.T) {
	p := pace.New(2, 3)
	if p.Taken() {
		t.Error("no reply is waited for")
	}
	if !p.Tell(5) || p.Tell(5) || !p.Taken() || p.Taken() || !p.Tell(5) {
		t.Error("one call after the other")
	}
}

func TestWaitsLonger(t *testing.T) {
	p := pace.New(4, 3)
	if !p.Fail(10) || p.Tell(12) || !p.Tell(13) {
		t.Error("behind the first failure")
	}
	p.Taken()
	if !p.Fail(20) || p.Tell(25) || !p.Tell(26) {
		t.Error("behind the second one")
	}
	p.Taken()
	if !p.Fail(30) || p.Tell(41) || !p.Tell(42) {
		t.Error("behind the third one")
	}
	p.Taken()
	if p.Fail(50) || !p.Tell(50) {
		t.Error("the fourth one is the last")
	}
}

func TestPasses(t *testing.T) {
	for e := api.OK; e <= api.ErrExist; e++ {
		if pace.Passes(e) != (e == api.ErrNet || e == api.ErrFull) {
			t.Error(int(e))
		}
	}
}
