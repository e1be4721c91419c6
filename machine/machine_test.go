package machine_test

import (
	"math"
	"testing"

	"squint/api"
	"squint/machine"
	"squint/verify"
)

// TestExamples are the chapter's.
func TestExamples(t *testing.T) {
	five := "prog 0 0 2 0, prog 1 0, call 0 1, pop, ret, prog 0 0 0 1, int 5, ret"
	tales{
		{"prog 0 0 2 0, ret", "held; run 0 1; held; run 5 5", "1 2; exit; none; exit"},
		{"prog 0 1 2 0, cap 0, wait 0 2, store 0, ret", "run 9 1; run 9 1; fire 1 5; run 9 1; fire 0 5; run 9 1", "wait ?1; wait ?1; wait ?1; exit"},
		{"prog 0 0 2 0, cap 1, int 7, wait 1 3, ret", "run 9 1", "wait !2=7"},
		{"prog 0 0 2 0, int 1, int 2, tuple 2, pop, ret", "clone; run 2 1; back; run 3 1", "spent 5; exit +3"},
		{"prog 0 0 2 0, make, pop, ret", "run 9 1; run 9 1; give c3; held; run 9 1", "make; make; 1 2 3; exit"},
		{"prog 0 0 2 0, back 0", "run 0 0; run 0 0", "tick; tick"},
		{"prog 0 0 2 0, int 1, int 0, bin 42, pop, ret", "run 9 1", "trap 1"},
		{five, "clone; run 9 2; run 9 2; back; run 9 1", "tick +1; exit; spent 6 +1"},
		{"type 1 0, type 6 0, prog 0 0 2 0, zero 1, begin 0, ret", "run 9 1", "trap 4 +1"},
	}.try(t)
}

// TestNewRefuses: P11.1: verify's error, and no machine.
func TestNewRefuses(t *testing.T) {
	seen := map[api.Errno]bool{}
	for _, x := range []struct {
		text string
		want api.Errno
	}{
		{"", api.ErrVerifyProg},
		{"prog 0 0 2 0", api.ErrVerifyProg},
		{"prog 0 0 1 0, ret", api.ErrVerifyProg},
		{"prog 0 0 2 1, int 1, ret", api.ErrVerifyProg},
		{"prog 1 1 2 0, ret", api.ErrVerifyProg},
		{"type 9 0, prog 0 0 2 0, ret", api.ErrVerifyProg},
		{"prog 0 0 2 0, ret, prog 0 65537 0 0, ret", api.ErrVerifyProg},
		{"prog 0 0 2 0, bool 2, pop, ret", api.ErrVerifyOp},
		{"prog 0 0 2 0, zero 0, pop, ret", api.ErrVerifyOp},
		{"type 4 0 0 0, prog 0 0 2 0, zero 0, pop, ret", api.ErrVerifyOp},
		{"prog 0 0 2 0, ret, jump 9", api.ErrVerifyJump},
		{"prog 0 1 2 0, load 0, pop, ret", api.ErrVerifySlot},
		{"prog 0 0 2 0, int 1, ret", api.ErrVerifyStack},
		{"prog 0 0 2 0, pop, ret", api.ErrVerifyStack},
		{"prog 0 1 2 0, bool 1, false 4, int 1, store 0, ret", api.ErrVerifyMerge},
		{"prog 0 0 2 0, make", api.ErrVerifyEnd},
	} {
		u := unitOf(t, x.text)
		if m, why := machine.New(u); m != nil || why != x.want {
			t.Errorf("%s: %v, %d, not %d", x.text, m, why, x.want)
		}
		seen[x.want] = true
	}
	if len(seen) != 7 {
		t.Error("errors:", seen)
	}
}

// TestNewSpoilt: P11.1, on units in which something may be wrong.
func TestNewSpoilt(t *testing.T) {
	m := newMaker(3)
	refused, taken := 0, 0
	for range 6000 {
		u := copyUnit(m.unit())
		p := &u.Progs[m.IntN(len(u.Progs))]
		i := &p.Code[m.IntN(len(p.Code))]
		switch m.IntN(6) {
		case 0:
			i.A += pick(m, -1, 1)
		case 1:
			i.Op = m.IntN(30)
		case 2:
			*i = pick(m, p.Code...)
		case 3:
			p.Slots += pick(m, -1, 1)
		case 4:
			p.Caps += pick(m, -1, 1)
		case 5:
			p.Code = p.Code[:m.IntN(len(p.Code))]
		}
		_, _, want := verify.Check(u)
		x, why := machine.New(u)
		if why != want || (x == nil) != (why != api.OK) {
			t.Fatalf("%s\nNew: %d, not %d", shown(u), why, want)
		}
		if why != api.OK {
			refused++
			continue
		}
		taken++
		for range 10 {
			x.Run(50, 3)
			x.Give(channel(3))
			x.Fire(0, m.value(0, 2))
			x.Held()
		}
	}
	if refused < 1000 || taken < 500 {
		t.Error(refused, taken)
	}
}

// TestRunAgain: P11.3: where Run goes on, and where it tells the same again.
func TestRunAgain(t *testing.T) {
	tales{
		// one that begins; at ticks
		{"prog 0 0 2 0, int 1, array 1, pop, back 0", "run 9 0; run 9 0; run 9 0", "tick +2; tick +2; tick +2"},
		// at PBorn it goes on without anything
		{"prog 0 0 2 0, prog 1 0, begin 0, array 0, pop, ret, prog 0 0 0 0, ret", "run 9 1; run 9 1; run 9 1", "born p2<> +1; exit +1; exit"},
		// at PMake and PWait it does not; the cells are told once
		{"prog 0 0 2 0, array 0, pop, make, pop, array 0, pop, ret", "run 9 1; run 9 1; run 0 0; run -9 -9; give c3; run 9 1; run 9 1", "make +1; make; make; make; exit +1; exit"},
		{"prog 0 0 2 0, array 0, cap 0, wait 0 3, pop, pop, array 0, pop, ret", "run 9 1; run 9 1; run 0 0; run -9 -9; fire 0 1; run 9 1; run 9 1", "wait ?1 +1; wait ?1; wait ?1; wait ?1; exit +1; exit"},
		{"prog 0 0 2 0, wait", "run 9 1; run 9 1; fire 0 1; fire -1 1; run 9 1; held", "wait; wait; wait; 1 2"},
		// one that has ended
		{"prog 0 0 2 0, array 0, pop, ret", "run 9 1; run 9 1; give c3; fire 0 1; run 9 1; held", "exit +1; exit; exit; none"},
		{"prog 0 0 2 0, array 0, len, int 0, bin 43, pop, ret", "run 9 1; run 9 1; give c3; fire 0 1; run 9 1; held", "trap 1 +1; trap 1; trap 1; none"},
		{"prog 0 0 2 0, array 0, array 0, tuple 2, pop, ret", "run 4 1; run 9 1; give c3; fire 0 1; run 9 1; held", "spent 5 +2; spent 5; spent 5; none"},
		{"prog 0 0 2 0, prog 1 0, call 0 0, ret, prog 0 0 0 0, ret", "run 4 1; run 9 9; give c3; fire 0 1; run 9 9; held", "spent 6 +1; spent 6; spent 6; none"},
		// and one that never began
		{"prog 0 0 2 0, ret", "child 5 (); held; run 9 9; run 9 9; held; give c3; fire 0 1; run 9 9; clone; run 9 9", "none; trap 5; trap 5; none; trap 5; trap 5"},
	}.try(t)
}

// TestGive: P11.4: at PMake alone, and once.
func TestGive(t *testing.T) {
	tales{
		{"prog 0 1 2 0, make, store 0, load 0, load 0, wait 1 5, ret", "give c9; held; run 9 1; held; give c3; held; give c4; held; run 9 1; give c5; held", "1 2; make; 1 2; 1 2 3; 1 2 3; wait !3=c3; 1 2 3"},
		{"prog 0 0 2 0, make, make, wait 0 3, pop, pop, ret", "run 9 1; give c3; give c4; run 9 1; held; give c5; held; run 9 1; give c6; held", "make; make; 1 2 3; 1 2 3 5; wait ?5; 1 2 3 5"},
		// nothing changes at a tick, at a birth, at a wait, behind an end
		{"prog 0 0 2 0, tick, make, pop, ret", "run 9 1; give c3; held; run 9 1; held; give c3; held", "tick; 1 2; make; 1 2; 1 2 3"},
		{"prog 0 0 2 0, prog 1 0, begin 0, make, pop, ret, prog 0 0 0 0, ret", "run 9 1; give c3; held; run 9 1; run 9 1", "born p2<> +1; 1 2; make; make"},
		{"prog 0 0 2 0, cap 0, wait 0 2, pop, make, pop, ret", "run 9 1; give c3; held; run 9 1; fire 0 c4; give c3; held; run 9 1; run 9 1", "wait ?1; 1 2; wait ?1; 1 2 4; make; make"},
		{"prog 0 0 2 0, ret", "run 9 1; give c3; held; run 9 1", "exit; none; exit"},
		// whatever it is, it is laid
		{"prog 0 1 2 0, make, store 0, cap 1, load 0, wait 1 5, ret", "run 9 1; clone; give 5; run 9 1; back; clone; give (c7 [c8 c7]); held; run 9 1; held; back; give odd0:4<c6>; held; run 9 1", "make; wait !2=5; 1 2 7 8; wait !2=(c7 [c8 c7]); 1 2 7 8; 1 2 6; wait !2=odd0:4<c6>"},
	}.try(t)
}

// TestFire: P11.4: at PWait alone, of an arm that is there, and once.
func TestFire(t *testing.T) {
	choice := "prog 0 1 2 0, cap 0, cap 1, int 8, wait 0 got 1 sent, got:, store 0, jump end, sent:, int 6, store 0, end:, cap 1, load 0, wait 1 over, over:, ret"
	tales{
		{choice,
			"fire 0 5; run 9 1; clone; fire 0 5; run 9 1; back; clone; fire 1 5; run 9 1; back; fire 2 5; fire -1 5; fire 9223372036854775807 5; fire -9223372036854775808 5; run 9 1",
			"wait ?1 !2=8; wait !2=5; wait !2=6; wait ?1 !2=8"},
		// the second one counts nothing
		{choice,
			"run 9 1; clone; fire 0 5; fire 1 7; fire 0 7; run 9 1; back; fire 1 5; fire 0 c3; held; fire 1 7; run 9 1",
			"wait ?1 !2=8; wait !2=5; 1 2; wait !2=6"},
		// neither at the beginning, nor at a tick, a make, a birth, an end
		{"prog 0 0 2 0, tick, make, pop, prog 1 0, begin 0, cap 0, wait 0 got, got:, pop, ret, prog 0 0 0 0, ret",
			"fire 0 c9; held; run 9 1; fire 0 c9; held; run 9 1; fire 0 c9; held; run 9 1; give c3; fire 0 c9; held; run 9 1; fire 0 c9; held; run 9 1; fire 0 c9; held; run 9 1; fire 0 c9; held; run 9 1",
			"1 2; tick; 1 2; make; 1 2; make; 1 2 3; born p2<> +1; 1 2; wait ?1; 1 2 9; exit; none; exit"},
		// two arms with one target, on one channel
		{"prog 0 1 2 0, cap 0, cap 0, wait 0 got 0 got, got:, store 0, cap 1, load 0, wait 1 over, over:, ret", "run 9 1; clone; fire 0 5; run 9 1; back; fire 1 6; run 9 1", "wait ?1 ?1; wait !2=5; wait !2=6"},
		// of an arm that sends what is handed in is not laid, and what it sends is let go; of one that receives the others' are
		{"prog 0 0 2 0, make, make, make, wait 1 sent 0 got, got:, pop, sent:, ret", "run 9 1; give c3; run 9 1; give c4; run 9 1; give c5; run 9 1; held; clone; fire 0 c6; held; run 9 1; back; fire 1 c6; held; run 9 1", "make; make; make; wait !3=c4 ?5; 1 2 3 4 5; 1 2; exit; 1 2 6; exit"},
		// channels that are nil, or below 0
		{"type 1 0, type 5 0 0, prog 0 0 2 0, zero 1, make, wait 0 got 0 got, got:, pop, ret", "run 9 1; give c-5; run 9 1; held; fire 1 c-7; held; run 9 1", "make +1; wait ?0 ?-5; 1 2; 1 2; exit"},
	}.try(t)
}

// TestHeld: P11.5, at each pause, behind a Give and a Fire, and of one that has ended.
func TestHeld(t *testing.T) {
	tales{
		// slots, with a value, without one, with another one
		{"prog 0 2 2 0, make, store 0, tick, clear 0, tick, make, store 1, make, store 1, tick, clear 1, ret",
			"run 9 1; give c3; held; run 9 1; held; run 9 1; held; run 9 1; give c4; run 9 1; give c5; held; run 9 1; held; run 9 1; held",
			"make; 1 2 3; tick; 1 2 3; tick; 1 2; make; make; 1 2 4 5; tick; 1 2 5; exit; none"},
		// stacks, and what stands in values
		{"prog 0 0 2 0, make, make, tuple 2, array 1, tick, pop, tick, ret", "run 9 1; give c7; run 9 1; give c3; run 9 1; held; run 9 1; held", "make; make; tick +7; 1 2 3 7; tick; 1 2"},
		{"prog 0 0 2 0, make, prog 1 1, tick, pop, tick, ret, prog 0 0 1 0, ret", "run 9 1; give c4; run 9 1; held; run 9 1; held", "make; tick +2; 1 2 4; tick; 1 2"},
		{"prog 0 0 2 0, int 3, make, fill, tick, pop, ret", "run 9 1; give c4; run 9 1; held", "make; tick +4; 1 2 4"},
		// calls that go on below, with what they captured, their slots and stacks; and the running one
		{"prog 0 1 2 0, make, store 0, make, make, prog 1 1, make, call 1 0, pop, clear 0, ret, prog 1 1 1 0, tick, ret",
			"run 9 2; give c3; run 9 2; give c4; run 9 2; give c5; run 9 2; give c6; run 9 2; held; run 9 2; held; run 9 2; held",
			"make; make; make; make +2; tick; 1 2 3 4 5 6; tick; 1 2 3 4 5 6; exit; none"},
		// a prog's value and its arguments are gone when the call has ended, and so is what it had; its result stands on the stack below
		{"prog 0 0 2 0, make, prog 1 1, make, call 1 1, tick, pop, ret, prog 1 1 1 1, load 0, ret",
			"run 9 2; give c3; run 9 2; give c4; run 9 2; held; run 9 2; held", "make; make +2; tick; 1 2 3 4; tick; 1 2 4"},
		// at PWait the arms' channels, and what they send; nil and numbers below 0 are held by nobody
		{"type 1 0, type 5 0 0, prog 0 0 2 0, make, make, make, zero 1, make, wait 0 got 1 sent 1 sent, got:, pop, sent:, ret",
			"run 9 1; give c3; run 9 1; give c4; run 9 1; give c5; run 9 1; give c-6; run 9 1; held; clone; fire 0 c8; held; back; fire 1 c8; held",
			"make; make; make; make +1; wait ?3 !4=c5 !0=c-6; 1 2 3 4 5; 1 2 8; 1 2"},
		// at PBorn neither the prog nor the arguments
		{"prog 0 0 2 0, make, prog 1 1, make, begin 1, ret, prog 1 1 1 0, ret", "run 9 1; give c3; run 9 1; give c4; run 9 1; held; run 9 1; held", "make; make +2; born p2<c3> c4; 1 2; exit; none"},
		// at PMake what is on the stack
		{"prog 0 0 2 0, make, make, pop, pop, ret", "run 9 1; held; give c3; held; run 9 1; held", "make; 1 2; 1 2 3; make; 1 2 3"},
		// a child: what it was begun with; not its maker's
		{"prog 0 1 2 0, make, store 0, tick, clear 0, ret, prog 1 2 1 0, back 0", "run 9 1; give c9; run 9 1; held; child p2<(c3 c4)> (c5); held; run 9 1; held; back; held", "make; tick; 1 2 9; 3 4 5; tick; 3 4 5; 1 2 9"},
		{"prog 0 0 2 0, ret, prog 1 1 1 0, clear 0, tick, ret", "child p2<c3> ([c5 (c6 c0)]); held; run 9 1; held", "3 5 6; tick; 3"},
		// a trap, and what passes a limit, at once hold nothing
		{"prog 0 1 2 0, make, store 0, load 0, len, pop, ret", "run 9 1; give c3; held; run 9 1; held", "make; 1 2 3; trap 5; none"},
		{"prog 0 1 2 0, make, store 0, load 0, array 1, pop, ret", "run 9 1; give c3; held; run 1 1; held", "make; 1 2 3; spent 5; none"},
	}.try(t)
}

// TestChild: P11.2.
func TestChild(t *testing.T) {
	u := "prog 0 0 2 0, back 0, prog 0 0 0 0, ret, prog 2 3 1 1, cap 0, load 1, wait 1 3, load 0, ret"
	tales{
		{u, "child p2<> (); held; run 0 0; held; run 0 0", "none; exit; none; exit"},
		{u, "child p3<c4> (7 c6); held; run 0 -5; held; fire 0 9; held; run 0 0", "4 6; wait !4=c6; 4 6; 4 6; exit"},
		{u, "child p1<c8 c9> (); held; run 0 0; held", "8 9; tick; 8 9"},
		{u, "child p1<5 6> (); held; run 0 0; held", "none; tick; none"},
		{u, "child p3<odd7:1<c3>> (odd0:0<> none); held; run 0 0; held", "3; trap 5; none"},
		// a child of a child, a clone of a child, a child of one that has ended
		{u, "child p2<> (); run 0 0; child p3<c4> (7 8); clone; run 0 0; back; held; child p2<> (); run 0 0", "exit; wait !4=8; 4; exit"},
		{u, "child 5 (); child p3<c4> (7 8); run 0 0", "wait !4=8"},
		// what does not fit
		{u, "child p0<> (); held; run 9 9", "none; trap 4"},
		{u, "child p0<c3> (c4 c5); held; run 9 9; run 9 9; held", "none; trap 4; trap 4; none"},
		{u, "child p2<c3> (); held; run 9 9", "none; trap 5"},
		{u, "child p2<> (c4); held; run 9 9", "none; trap 5"},
		{u, "child p3<> (c4 5); held; run 9 9", "none; trap 5"},
		{u, "child p3<c3 c3> (c4 5); held; run 9 9", "none; trap 5"},
		{u, "child p3<c3> (c4); held; run 9 9", "none; trap 5"},
		{u, "child p3<c3> (c4 5 6); held; run 9 9", "none; trap 5"},
		{u, "child p4<> (); held; run 9 9", "none; trap 5"},
		{u, "child p-1<> (); held; run 9 9", "none; trap 5"},
		{u, "child p9223372036854775807<> (); held; run 9 9", "none; trap 5"},
		{u, "child p-9223372036854775808<> (); held; run 9 9", "none; trap 5"},
		{u, "child 2 (); held; run 9 9", "none; trap 5"},
		{u, "child 0 (); held; run 9 9", "none; trap 5"},
		{u, "child c2 (); held; run 9 9", "none; trap 5"},
		{u, "child none (); held; run 9 9", "none; trap 5"},
		{u, "child (p2<> p2<>) (); held; run 9 9", "none; trap 5"},
		{u, "child odd7:2<> (); held; run 9 9", "none; trap 5"},
	}.try(t)
}

// TestClones: P11.6 and P11.10, by hand.
func TestClones(t *testing.T) {
	sum := "prog 0 2 2 0, int 0, store 0, cap 0, wait 0 4, store 1, load 0, load 1, bin 31, store 0, cap 1, load 0, wait 1 12, clear 1, back 2"
	tales{
		{sum, "run 0 1; fire 0 5; clone; run 0 1; fire 0 0; run 0 1; run 0 1; fire 0 7; run 0 1; back; run 0 1; fire 0 0; run 0 1; run 0 1; fire 0 1; run 0 1", "wait ?1; wait !2=5; tick; wait ?1; wait !2=12; wait !2=5; tick; wait ?1; wait !2=6"},
		// of one that waits: one is fired, the other not
		{sum, "run 0 1; clone; fire 0 c5; held; back; held; run 0 1", "wait ?1; 1 2 5; 1 2; wait ?1"},
		// of one at PMake
		{"prog 0 0 2 0, make, make, pop, pop, ret", "run 0 1; clone; give c5; held; run 0 1; give c6; held; back; held; run 0 1; give c7; held", "make; 1 2 5; make; 1 2 5 6; 1 2; make; 1 2 7"},
		// behind a Give and a Fire
		{"prog 0 0 2 0, make, pop, ret", "run 0 1; give c4; clone; run 0 1; held; back; held; run 0 1", "make; exit; none; 1 2 4; exit"},
		// of one that has ended, and the one of which it was made goes on
		{"prog 0 1 2 0, int 3, store 0, load 0, int 1, bin 32, store 0, load 0, int 0, bin 22, false 11, back 2, ret", "clone; run 0 1; run 0 1; run 0 1; clone; run 0 1; back; back; run 0 1; run 0 1; run 0 1", "tick; tick; exit; exit; tick; tick; exit"},
		// calls: a parameter is set in one, not in the other
		{"prog 0 0 2 0, prog 1 0, make, call 1 1, wait 0 got, got:, pop, ret, prog 1 1 0 1, make, store 0, tick, load 0, ret", "run 9 2; give c3; run 0 2; clone; run 0 2; give c8; held; run 0 2; run 0 2; back; run 0 2; give c9; held; run 0 2; run 0 2", "make +1; tick; make; 1 2 3 8; tick; wait ?8; make; 1 2 3 9; tick; wait ?9"},
	}.try(t)
}

// TestLimits: cells at what is left and one above, depths at the bound and one above, numbers below 0.
func TestLimits(t *testing.T) {
	u := "type 4 0 1 1, type 1 0, type 6 0 1, prog 0 1 2 0, "
	for _, x := range []struct {
		code string
		need int
	}{
		{"zero 0, pop, ret", 3},
		{"zero 1, pop, ret", 1},
		{"zero 2, pop, ret", 1},
		{"array 0, pop, ret", 1},
		{"int 5, array 1, pop, ret", 2},
		{"int 5, int 6, tuple 2, pop, ret", 3},
		{"int 5, int 6, int 7, tuple 3, pop, ret", 4},
		{"int 0, int 7, fill, pop, ret", 1},
		{"int 4, int 7, fill, pop, ret", 5},
		{"int 4, int 7, int 7, tuple 2, fill, pop, ret", 16},
		{"prog 1 0, pop, ret", 1},
		{"int 3, array 1, cap 0, prog 2 2, pop, ret", 6},
		{"int 3, array 1, store 0, int 0, int 9, part 0 -1, ret", 4},
		{"int 3, array 1, store 0, int 0, int 1, int 2, tuple 2, part 0 -1, ret", 9},
		{"int 3, int 4, tuple 2, store 0, int 5, part 0 1, ret", 6},
		{"array 0, array 0, array 2, pop, ret", 5},
		{"int 4, unary 1, int 5, bin 31, bool 0, unary 2, pop, pop, self, pop, cap 0, pop, ret", 0},
		{"int 3, int 4, array 2, store 0, load 0, len, load 0, int 1, index, load 0, pop, pop, pop, clear 0, ret", 3},
		{"int 3, int 4, tuple 2, store 0, load 0, field 1, load 0, pop, pop, clear 0, ret", 3},
	} {
		unit := unitOf(t, u+x.code+", prog 0 0 0 0, ret, prog 0 0 2 0, ret")
		for _, cells := range []int{x.need, x.need + 1, x.need + 2, 1 << 20, math.MaxInt - 1, math.MaxInt} {
			if got := newPair(t, unit).Run(cells, 1); got.Kind != api.PExit || got.Cells != x.need {
				t.Errorf("%s: %d cells: %s", x.code, cells, line(got))
			}
		}
		if x.need == 0 {
			if got := newPair(t, unit).Run(math.MinInt, 1); got.Kind != api.PExit || got.Cells != 0 {
				t.Errorf("%s: %s", x.code, line(got))
			}
			continue
		}
		for _, cells := range []int{math.MinInt, math.MinInt + 1, -1, 0, x.need - 1} {
			if got := newPair(t, unit).Run(cells, 1); got.Kind != api.PSpent || got.Code != api.SpentCells || got.Cells >= x.need {
				t.Errorf("%s: %d cells: %s", x.code, cells, line(got))
			}
		}
	}
	tales{
		// those that were used ahead are told, and count
		{"prog 0 0 2 0, array 0, pop, array 0, pop, int 1, array 1, pop, ret", "clone; run 4 1; back; clone; run 3 1; back; clone; run 2 1; back; clone; run 1 1; back; run 0 1", "exit +4; spent 5 +2; spent 5 +2; spent 5 +1; spent 5"},
		// but not those of earlier Runs
		{"prog 0 0 2 0, array 0, pop, tick, array 0, pop, ret", "run 1 1; run 1 1", "tick +1; exit +1"},
		// a trap is ahead of the cells
		{"prog 0 0 2 0, int -1, int 0, fill, pop, ret", "run 0 1", "trap 3"},
		{"prog 0 1 2 0, array 0, store 0, int 0, int 0, part 0 -1, ret", "run 1 1", "trap 2 +1"},
	}.try(t)
}

func TestDepths(t *testing.T) {
	// prog 1 calls itself, as often as its parameter says
	u := "prog 0 0 2 0, prog 1 0, int 2, call 1 0, ret, prog 1 1 0 0, load 0, int 0, bin 25, false 9, self, load 0, int 1, bin 32, call 1 0, ret"
	tales{
		{u, "run 1 4; run 1 4; run 1 4; run 1 4", "tick +1; tick; tick; exit"},
		{u, "run 1 4; run 1 4; run 1 3; run 1 3", "tick +1; tick; spent 6; spent 6"},
		{u, "run 1 4; run 1 4; run 1 4; run 1 1", "tick +1; tick; tick; exit"},
		{u, "run 1 2; run 1 3; run 1 4; run 1 -1", "tick +1; tick; tick; exit"},
		{u, "run 1 1; run 9 9; held", "spent 6 +1; spent 6; none"},
		{u, "run 1 0; run 9 9", "spent 6 +1; spent 6"},
		{u, "run 1 -9223372036854775808", "spent 6 +1"},
		{u, "run 1 9223372036854775807", "tick +1"},
		// a child is one deep
		{u, "child p2<> (1); clone; run 0 2; run 0 2; back; run 0 1", "tick; exit; spent 6"},
		{u, "child p2<> (0); run 0 -3", "exit"},
		// what does not fit, and a result that is not wanted, or wanting, are ahead of the depth; and a birth is no call
		{"prog 0 0 2 0, prog 1 0, int 1, call 1 0, ret, prog 0 0 0 0, ret", "run 9 1", "trap 5 +1"},
		{"prog 0 0 2 0, prog 1 0, call 0 0, ret, prog 0 0 0 1, int 1, ret", "run 9 1", "trap 5 +1"},
		{"prog 0 0 2 0, prog 1 0, call 0 1, pop, ret, prog 0 0 0 0, ret", "run 9 1", "trap 5 +1"},
		{"prog 0 0 2 0, prog 1 0, begin 0, ret, prog 0 0 0 0, ret", "run 9 0; run 9 0", "born p2<> +1; exit"},
	}.try(t)
}

// TestPrograms: units that Build made, by hand.
func TestPrograms(t *testing.T) {
	for _, x := range []struct{ src, steps, want string }{
		{"val c = make chan of int; begin prog() { c <-= 7; }(); val x = <-c; output <-= x;",
			"run 9 1; give c3; run 9 1; child p2<c3> (); held; run 9 1; fire 0 0; held; run 9 1; back; held; run 9 1; fire 0 7; run 9 1; held; fire 0 0; run 9 1",
			"make; born p2<c3> +2; 3; wait !3=7; 3; exit; 1 2 3; wait ?3; wait !2=7; 1 2 3; exit"},
		{"val c = make chan of int; begin prog() { c <-= 1; }(); while true { }", "run 9 1; give c3; run 9 1; run 9 1; held; run 9 1; held", "make; born p2<c3> +2; tick; 1 2 3; tick; 1 2 3"},
		{"{ val c = make chan of int; begin prog() { c <-= 1; }(); } while true { }", "run 9 1; give c3; run 9 1; held; run 9 1; held", "make; born p2<c3> +2; 1 2 3; tick; 1 2"},
		{"val a = [1, 2]; output <-= a[2];", "run 9 1", "trap 2 +3"},
		{"val a = fill(-1, true);", "run 9 1", "trap 3"},
		{"val a = 1 % 0;", "run 9 1", "trap 1"},
		{"var f: prog(); f();", "run 9 1", "trap 4 +1"},
		{"var f: prog(int): int; begin f(1);", "run 9 1", "trap 4 +1"},
		{"select { case input <-= 1 { } case x = <-input { output <-= x + 1; } }", "run 9 1; clone; fire 0 5; run 9 1; back; fire 1 5; run 9 1", "wait !1=1 ?1; exit; wait !2=6"},
		{"var a: array of (int, bool) = fill(2, (0, false)); a[1].0 = 5; output <-= a[1].0 + len(a);", "run 17 1", "wait !2=7 +17"},
		{"var a: array of (int, bool) = fill(2, (0, false)); a[1].0 = 5;", "run 16 1", "spent 5 +10"},
		{"val f = prog f(n: int): int { if n < 1 { return 0; } return n + f(n - 1); }; output <-= f(2);", "clone; run 9 4; run 9 4; run 9 4; run 9 4; back; run 9 4; run 9 4; run 9 3", "tick +1; tick; tick; wait !2=3; tick +1; tick; spent 6"},
	} {
		if got := tale(t, builtOf(t, x.src), x.steps); got != x.want {
			t.Errorf("%s\n%s:\n%s, not\n%s", x.src, x.steps, got, x.want)
		}
	}
}
