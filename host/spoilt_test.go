package host_test

import (
	"slices"
	"strings"
	"testing"

	"squint/api"
	"squint/host"
	"squint/script"
)

// others are tokens that may stand where others stood.
var others = strings.Fields("0 1 true false x a input output T I int bool ( ) [ ] { } , ; : . = == < + - * / % && || ! <- <-= array begin case chan else fill if len make of prog return select type val var while")

// spoilt is a source in which something else stands at some place: mostly such as the grammar takes there.
func (m *maker) spoilt(all []string) string {
	out := slices.Clone(all)
	for range 1 + m.IntN(2) {
		if m.IntN(6) == 0 {
			out = m.rough(out)
			continue
		}
		for range 40 {
			k := 0
			if len(out) > 0 {
				k = m.IntN(len(out))
			}
			if k < len(out) && m.swapped(out, k) {
				break
			}
		}
	}
	return strings.Join(out, " ")
}

// rough has a token less, or more, or another one, whatever it is.
func (m *maker) rough(all []string) []string {
	if len(all) == 0 {
		return []string{m.one(others...)}
	}
	k, other := m.IntN(len(all)), m.one(m.one(others...), m.one(all...))
	switch m.IntN(4) {
	case 0:
		return slices.Delete(all, k, k+1)
	case 1:
		return slices.Insert(all, k, other)
	case 2:
		j := m.IntN(len(all))
		all[k], all[j] = all[j], all[k]
	case 3:
		all[k] = other
	}
	return all
}

// swapped puts another token of its like in the place of one; false, if there is none.
func (m *maker) swapped(all []string, k int) bool {
	for _, like := range [][]string{
		{"int", "bool", "T", "C", "P", "G", "I", "U", "X"},
		{"+", "-", "*", "/", "%", "==", "!=", "<", "<=", ">", ">=", "&&", "||"},
		{"0", "1", "2", "3", "true", "false"},
		{"array", "chan"},
	} {
		if slices.Contains(like, all[k]) {
			all[k] = m.one(append(like, m.one("x", "input", like[0]))...)
			return true
		}
	}
	if !name(all[k]) {
		return false
	}
	var names []string
	for _, one := range all {
		if name(one) {
			names = append(names, one)
		}
	}
	all[k] = m.one(names...)
	return true
}

// name tells whether a token is a name.
func name(one string) bool {
	return (one[0] == '_' || one[0]|32 >= 'a' && one[0]|32 <= 'z') && (!slices.Contains(others, one) || len(one) == 1 || one == "input" || one == "output")
}

// P19.1, P19.2, P19.4, P19.5: spoilt sources: the fault is parse's, else check's, whatever the script is; where there is none, both runs tell the same.
func TestSpoilt(t *testing.T) {
	m := newMaker(3)
	seen := map[api.Errno]int{}
	for range 4000 {
		x := m.made(t, 12)
		src := m.spoilt(tokens(t, x.src))
		s := x.script
		if m.IntN(3) == 0 {
			s.Limits.Nest = 1 + m.IntN(12)
		}
		want := fault(src, s.Limits.Nest)
		seen[want.Code]++
		if want.Code != api.OK {
			hold(t, src, s, api.Result{Fault: want}, api.OK)
			l := m.limits()
			l.Nest = s.Limits.Nest
			hold(t, src, api.Script{Limits: l, Reap: !s.Reap, Picks: s.Picks[m.IntN(len(s.Picks)):]}, api.Result{Fault: want}, api.OK)
		} else {
			run, e := host.Run([]byte(src), s)
			hold(t, src, s, run, e)
			if run.Fault != want || e != api.OK {
				t.Errorf("%s: %s", src, show(run, e))
			}
		}
		if t.Failed() {
			t.FailNow()
		}
	}
	for _, code := range []api.Errno{api.OK, api.ErrParseWant, api.ErrParseDeep, api.ErrKindTwice, api.ErrKindName, api.ErrKindOpen, api.ErrScopeTwice, api.ErrScopeName, api.ErrScopeCapture, api.ErrCheckType, api.ErrCheckMany, api.ErrCheckKind} {
		if seen[code] == 0 {
			t.Errorf("there is no source with the fault %d", code)
		}
	}
}

// P19.3: Text is Parse, Run and Print, one behind the other: of made sources and scripts, and of such as are wrong.
func TestTextOfMade(t *testing.T) {
	m := newMaker(4)
	seen := map[string]int{}
	for range 2000 {
		x := m.made(t, 40)
		s := x.script
		s.Picks = slices.DeleteFunc(slices.Clone(s.Picks), func(p api.Pick) bool { return p.Kind < 1 || p.Kind > 4 })
		for k, p := range s.Picks {
			switch p.Kind {
			case api.PickProbe:
				s.Picks[k].N, s.Picks[k].V = 0, 0
			case api.PickStep, api.PickOut:
				s.Picks[k].V = 0
			}
		}
		src := x.src
		if m.IntN(3) == 0 {
			src = m.spoilt(tokens(t, src))
		}
		if m.IntN(6) == 0 {
			s.Limits = turned(s.Limits, m.IntN(7), []int{-1, 1 << 30, least, greatest}[m.IntN(4)])
		}
		text, e := script.Print(s)
		if e != api.OK {
			t.Fatal(s, e)
		}
		if m.IntN(5) == 0 {
			at := m.IntN(len(text))
			text = text[:at] + m.one("", "x", " ", "\n", "0", "\xff") + text[at+m.IntN(2):]
		}
		want := plainText([]byte(src), text)
		holdText(t, src, text, want)
		for _, word := range strings.Fields(want) {
			seen[word]++
			break
		}
	}
	for _, word := range []string{"script", "refused", "fault", "born", "skip"} {
		if seen[word] < 20 {
			t.Errorf("texts that begin with %s: %d only", word, seen[word])
		}
	}
}
