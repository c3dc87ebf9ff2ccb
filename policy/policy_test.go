package policy

import (
	"fmt"
	"math"
	"math/rand"
	"slices"
	"strings"
	"testing"

	"interregnum/api"
)

// someAddrs are addresses at the edges of bytes and bits.
var someAddrs = []uint32{0, 1, 0x7f, 0x80, 0xffff, 0x0a000000, 0x0a010203, 0x7fffffff, 0x80000000, 0x80000001, 0xaaaaaaaa, 0x55555555, 0xfffffffe, 0xffffffff}

// wrongLens are lengths that no prefix has; a byte, a mask or a shift would make right ones of some of them.
var wrongLens = []int{-1, -8, -32, 33, 34, 40, 64, 256, 264, 1 << 32, 1<<32 + 8, math.MinInt32, math.MaxInt32, math.MinInt, math.MaxInt}

// rightPrefs are those that a good rule may have, wrongPrefs those that it may not.
var (
	rightPrefs = []int{-1, 0, 1, 99, 100, 200, math.MaxInt32, 1 << 31, 1<<32 - 2, 1<<32 - 1}
	wrongPrefs = []int{-2, -3, -100, -1 << 32, math.MinInt32, math.MinInt, 1 << 32, 1<<32 + 1, 1 << 33, math.MaxInt}
)

// ten is 10.0.0.0/8, and all is 0.0.0.0/0.
var ten, all = api.Prefix{Addr: 0x0a000000, Len: 8}, api.Prefix{}

// bitsOf answers addr as a text of 32 digits 0 and 1.
func bitsOf(addr uint32) string {
	return fmt.Sprintf("%032b", addr)
}

// cut answers the prefix of the first n bits of addr.
func cut(addr uint32, n int) api.Prefix {
	p := api.Prefix{Len: n}
	for i, digit := range bitsOf(addr)[:n] {
		if digit == '1' {
			p.Addr |= 1 << (31 - i)
		}
	}
	return p
}

// wrongPrefixes answers prefixes that are not right: by their length, or by bits behind it.
func wrongPrefixes() []api.Prefix {
	var list []api.Prefix
	for _, n := range wrongLens {
		for _, addr := range []uint32{0, 0x0a000000, 0xffffffff} {
			list = append(list, api.Prefix{Addr: addr, Len: n})
		}
	}
	for n := range 32 {
		list = append(list, api.Prefix{Addr: 1, Len: n}, api.Prefix{Addr: 0xffffffff, Len: n}, api.Prefix{Addr: 1 << (31 - n), Len: n})
	}
	return list
}

// rightByText tells chapter 5's word by texts of bits, not by the program's own means.
func rightByText(p api.Prefix) bool {
	return p.Len >= 0 && p.Len <= 32 && !strings.Contains(bitsOf(p.Addr)[p.Len:], "1")
}

// applyByWord tells the chapter's sentence on Apply.
func applyByWord(rules []api.Rule, p api.Prefix) (int, bool) {
	for _, r := range rules {
		if !rightByText(r.Prefix) || !rightByText(p) || !strings.HasPrefix(bitsOf(p.Addr), bitsOf(r.Prefix.Addr)[:r.Prefix.Len]) {
			continue
		}
		if p.Len < r.Prefix.Len || p.Len < r.Min || p.Len > r.Max {
			continue
		}
		if r.Deny {
			return 0, false
		}
		return r.Pref, true
	}
	return -1, true
}

// goodByWord tells the chapter's sentence on Good.
func goodByWord(rules []api.Rule) bool {
	for _, r := range rules {
		for _, n := range []int{r.Min, r.Max} {
			if n < 0 || n > 32 {
				return false
			}
		}
		if !rightByText(r.Prefix) || r.Pref != -1 && int(uint32(r.Pref)) != r.Pref {
			return false
		}
	}
	return len(rules) < 17
}

func mustApply(t *testing.T, rules []api.Rule, p api.Prefix, pref int, ok bool) {
	t.Helper()
	if gotPref, gotOK := Apply(rules, p); gotPref != pref || gotOK != ok {
		t.Fatalf("Apply(%+v, %+v): %d, %v, want %d, %v", rules, p, gotPref, gotOK, pref, ok)
	}
}

func mustBeGood(t *testing.T, rules []api.Rule, want bool) {
	t.Helper()
	if Good(rules) != want {
		t.Fatalf("Good(%+v): %v", rules, !want)
	}
}

func TestTheChaptersExample(t *testing.T) {
	for _, rules := range [][]api.Rule{nil, {}} {
		for _, p := range append(wrongPrefixes(), all, ten, cut(0xffffffff, 32)) {
			mustApply(t, rules, p, -1, true)
		}
		mustBeGood(t, rules, true)
	}
}

func TestTheFirstRuleCounts(t *testing.T) {
	one, deny := api.Rule{Prefix: ten, Max: 32, Pref: 1}, api.Rule{Prefix: ten, Max: 32, Deny: true}
	other, none := api.Rule{Prefix: all, Max: 32, Pref: 2}, api.Rule{Prefix: cut(0x0b000000, 8), Max: 32, Pref: 3}
	p := cut(0x0a010000, 16)
	mustApply(t, []api.Rule{one, other, deny}, p, 1, true)
	mustApply(t, []api.Rule{other, one, deny}, p, 2, true)
	mustApply(t, []api.Rule{deny, one, other}, p, 0, false)
	mustApply(t, []api.Rule{none, one, deny}, p, 1, true)
	mustApply(t, []api.Rule{none, deny, one}, p, 0, false)
	mustApply(t, []api.Rule{none, none}, p, -1, true)
	// A rule of more bits is not ahead of one that stands ahead of it.
	closer := api.Rule{Prefix: p, Max: 32, Pref: 4}
	mustApply(t, []api.Rule{other, closer}, p, 2, true)
	mustApply(t, []api.Rule{closer, other}, p, 4, true)
	// A first one that says -1 is one: those behind it are not asked.
	asItWas := api.Rule{Prefix: ten, Max: 32, Pref: -1}
	mustApply(t, []api.Rule{asItWas, deny, other}, p, -1, true)
}

func TestMinAndMax(t *testing.T) {
	ends := append([]int{-2, -1, 0, 1, 7, 8, 9, 15, 16, 17, 24, 31, 32, 33}, wrongLens...)
	for _, least := range ends {
		for _, most := range ends {
			rules := []api.Rule{{Prefix: all, Min: least, Max: most, Pref: 7}}
			for n := range 33 {
				if least <= n && n <= most {
					mustApply(t, rules, cut(0x0a010203, n), 7, true)
				} else {
					mustApply(t, rules, cut(0x0a010203, n), -1, true)
				}
			}
		}
	}
}

// What Min and Max allow must be covered all the same.
func TestWhatIsCovered(t *testing.T) {
	for _, addr := range someAddrs {
		for n := range 33 {
			rules := []api.Rule{{Prefix: cut(addr, n), Max: 32, Pref: 5}}
			for m := range 33 {
				want := -1
				if m >= n {
					want = 5
				}
				mustApply(t, rules, cut(addr, m), want, true)
				if n > 0 {
					mustApply(t, rules, cut(addr^1<<(32-n), m), -1, true)
				}
				if n < m {
					mustApply(t, rules, cut(addr^1<<(31-n), m), 5, true)
				}
			}
		}
	}
}

func TestWrongPrefixesAreNotCovered(t *testing.T) {
	deny := api.Rule{Prefix: all, Min: math.MinInt, Max: math.MaxInt, Deny: true}
	for _, wrong := range wrongPrefixes() {
		mustApply(t, []api.Rule{deny}, wrong, -1, true)
		same := deny
		same.Prefix = wrong
		mustApply(t, []api.Rule{same}, wrong, -1, true)
		for _, p := range []api.Prefix{all, ten, cut(wrong.Addr, 32), cut(0xffffffff, 32), {Addr: 1, Len: 32}} {
			mustApply(t, []api.Rule{same}, p, -1, true)
			mustApply(t, []api.Rule{same, deny}, p, 0, false)
		}
	}
}

func TestPrefIsTheRules(t *testing.T) {
	for _, pref := range slices.Concat(rightPrefs, wrongPrefs) {
		rule := api.Rule{Prefix: ten, Min: 8, Max: 8, Pref: pref}
		mustApply(t, []api.Rule{rule}, ten, pref, true)
		mustApply(t, []api.Rule{rule}, cut(ten.Addr, 9), -1, true)
		// Beside a false there is no Pref.
		rule.Deny = true
		mustApply(t, []api.Rule{rule}, ten, 0, false)
		mustApply(t, []api.Rule{rule}, cut(ten.Addr, 9), -1, true)
	}
}

// Apply asks all rules, good or not, however many.
func TestApplyOfRulesThatAreNotGood(t *testing.T) {
	for _, count := range []int{15, 16, 17, 100, 1000} {
		rules := slices.Repeat([]api.Rule{{Prefix: api.Prefix{Addr: 1, Len: 40}, Min: 50, Max: -50, Pref: -9}}, count)
		mustApply(t, rules, ten, -1, true)
		rules = append(rules, api.Rule{Prefix: ten, Min: -5, Max: 77, Pref: 6})
		mustApply(t, rules, ten, 6, true)
		rules[count].Deny = true
		mustApply(t, rules, ten, 0, false)
	}
}

func TestGoodByHowMany(t *testing.T) {
	good := api.Rule{Prefix: ten, Min: 8, Max: 24, Pref: 100}
	for count := range 40 {
		mustBeGood(t, slices.Repeat([]api.Rule{good}, count), count <= 16)
		mustBeGood(t, make([]api.Rule, count), count <= 16)
	}
	mustBeGood(t, make([]api.Rule, 256), false)
	mustBeGood(t, make([]api.Rule, 1<<16), false)
}

// aroundGood asks for what Good says of the rule alone, with Deny and without, and at each place among good ones.
func aroundGood(t *testing.T, rule api.Rule, want bool) {
	t.Helper()
	for _, deny := range []bool{false, true} {
		rule.Deny = deny
		mustBeGood(t, []api.Rule{rule}, want)
		for place := range 16 {
			rules := slices.Repeat([]api.Rule{{Prefix: ten, Min: 8, Max: 24, Pref: 100}}, 16)
			rules[place] = rule
			mustBeGood(t, rules, want)
		}
	}
}

func TestGoodByPrefix(t *testing.T) {
	for _, addr := range someAddrs {
		for n := range 33 {
			mustBeGood(t, []api.Rule{{Prefix: cut(addr, n), Max: 32}}, true)
		}
	}
	for _, wrong := range wrongPrefixes() {
		aroundGood(t, api.Rule{Prefix: wrong, Max: 32}, false)
	}
}

func TestGoodByMinAndMax(t *testing.T) {
	for least := range 33 {
		for most := range 33 {
			mustBeGood(t, []api.Rule{{Prefix: ten, Min: least, Max: most}}, true)
		}
	}
	for _, wrong := range wrongLens {
		aroundGood(t, api.Rule{Prefix: ten, Min: wrong, Max: 32}, false)
		aroundGood(t, api.Rule{Prefix: ten, Min: 0, Max: wrong}, false)
		aroundGood(t, api.Rule{Prefix: ten, Min: wrong, Max: wrong}, false)
	}
	// Which of both is the greater does not count, nor how many bits the prefix has.
	aroundGood(t, api.Rule{Prefix: ten, Min: 32, Max: 0}, true)
	aroundGood(t, api.Rule{Prefix: ten, Min: 0, Max: 7}, true)
	aroundGood(t, api.Rule{Prefix: all, Min: 32, Max: 32}, true)
}

func TestGoodByPref(t *testing.T) {
	for _, pref := range rightPrefs {
		aroundGood(t, api.Rule{Prefix: ten, Max: 32, Pref: pref}, true)
	}
	for _, pref := range wrongPrefs {
		aroundGood(t, api.Rule{Prefix: ten, Max: 32, Pref: pref}, false)
	}
}

// pickPrefix answers a prefix, most often a short one, so that some cover others; now and then a wrong one.
func pickPrefix(source *rand.Rand, wrong []api.Prefix) api.Prefix {
	if source.Intn(40) == 0 {
		return wrong[source.Intn(len(wrong))]
	}
	n := source.Intn(33)
	if source.Intn(2) == 0 {
		n = source.Intn(4)
	}
	return cut(someAddrs[source.Intn(len(someAddrs))], n)
}

// pickRules answers some rules, most of them good.
func pickRules(source *rand.Rand, wrong []api.Prefix) []api.Rule {
	rules := make([]api.Rule, source.Intn(19))
	for i := range rules {
		r := &rules[i]
		r.Prefix, r.Deny = pickPrefix(source, wrong), source.Intn(3) == 0
		r.Min, r.Max, r.Pref = source.Intn(20), 10+source.Intn(23), source.Intn(300)-1
		if source.Intn(60) == 0 {
			r.Min = wrongLens[source.Intn(len(wrongLens))]
		}
		if source.Intn(60) == 0 {
			r.Max = wrongLens[source.Intn(len(wrongLens))]
		}
		if source.Intn(60) == 0 {
			r.Pref = wrongPrefs[source.Intn(len(wrongPrefs))]
		}
	}
	return rules
}

func TestAsTheSentencesSay(t *testing.T) {
	source, wrong := rand.New(rand.NewSource(12)), wrongPrefixes()
	good, denied, without, found := 0, 0, 0, 0
	for range 20000 {
		rules := pickRules(source, wrong)
		want := goodByWord(rules)
		mustBeGood(t, rules, want)
		if want {
			good++
		}
		for range 5 {
			p := pickPrefix(source, wrong)
			pref, ok := applyByWord(rules, p)
			mustApply(t, rules, p, pref, ok)
			switch {
			case !ok:
				denied++
			case pref == -1:
				without++
			default:
				found++
			}
		}
	}
	if good < 2000 || good > 18000 || denied < 10000 || without < 10000 || found < 10000 {
		t.Errorf("%d good, %d denied, %d without a rule, %d found", good, denied, without, found)
	}
}

// Rules R4 and R5: what is handed in stays, spare room included, what lies behind it does not count, and nothing is kept.
func TestNothingIsChangedOrKept(t *testing.T) {
	room := []api.Rule{
		{Prefix: cut(0x0b000000, 8), Max: 32, Pref: 1}, {Prefix: cut(0x0a010000, 16), Min: 24, Max: 32, Deny: true},
		{Prefix: ten, Max: 32, Deny: true}, {Prefix: ten, Min: 99, Pref: -7},
	}
	before := slices.Clone(room)
	rules := room[:2]
	for range 3 {
		mustApply(t, rules, cut(0x0b010000, 16), 1, true)
		mustApply(t, rules, cut(0x0a010200, 24), 0, false)
		mustApply(t, rules, ten, -1, true)
		mustBeGood(t, rules, true)
		mustBeGood(t, room, false)
	}
	if !slices.Equal(room, before) {
		t.Errorf("%+v, was %+v", room, before)
	}
	room[0].Pref = 2
	mustApply(t, rules, cut(0x0b010000, 16), 2, true)
}
