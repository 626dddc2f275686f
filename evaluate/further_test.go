package evaluate_test

import (
	"math/rand/v2"
	"slices"
	"strconv"
	"testing"

	"cohousing/api"
	"cohousing/evaluate"
)

// with are by-laws with a further rule.
func with(c api.Codex, r api.Rule) api.Codex {
	c.Rules = append(slices.Clone(c.Rules), r)
	return c
}

// further calls a function with by-laws that have room for one more rule, what is owed by them, and a further rule with a name of its own.
func further(count int, do func(r *rand.Rand, c api.Codex, u api.Rule, month, known int, values []int, owed string)) {
	allLaws(count, func(r *rand.Rand, c api.Codex, w window) {
		if len(c.Rules) == 100 {
			return
		}
		u := anyNext(r, nil, w)
		u.Name = pick(r, "new", "a0", "zz")
		month, known, values := min(1199, max(0, w.anyMonth(r))), anyKnown(r, c), anyTenant(r)
		do(r, c, u, month, known, values, owesText(evaluate.Owes(c, month, known, values)))
	})
}

// expectSame expects that the same is owed by by-laws.
func expectSame(t *testing.T, c api.Codex, month, known int, values []int, want string) {
	t.Helper()
	if got := owesText(evaluate.Owes(c, month, known, values)); got != want {
		t.Fatalf("%smonth %d, known %d, %v: got %q, want %q", shownLaws(c), month, known, values, got, want)
	}
}

// P13.7: a rule that becomes known later changes nothing, whether it is a version of another one or not.
func TestKnownLater(t *testing.T) {
	count := 0
	further(3000, func(r *rand.Rand, c api.Codex, u api.Rule, month, known int, values []int, owed string) {
		if known == 36524 {
			return
		}
		u.Known = pick(r, known+1, 36524, known+1+r.IntN(36524-known))
		expectSame(t, with(c, u), month, known, values, owed)
		for i, other := range slices.Backward(c.Rules) {
			isLast := !slices.ContainsFunc(c.Rules[i+1:], func(later api.Rule) bool { return later.Name == other.Name })
			if isLast && other.Known <= u.Known {
				version := u
				version.Name, version.Version, version.Kind, version.Act, version.Give = other.Name, other.Version+1, other.Kind, other.Act, other.Give
				expectSame(t, with(c, version), month, known, values, owed)
				count++
			}
		}
	})
	if count < 1000 {
		t.Errorf("only %d versions", count)
	}
}

// P13.7: a rule whose When never holds changes nothing.
func TestNeverHolds(t *testing.T) {
	count := 0
	never := []string{"not true", "k < 0", "m = 0.08 money", "a < 1 area and p", "1 < 0 or d < 5 days", "p = (not p)", "k + 1 <= k"}
	further(2000, func(r *rand.Rand, c api.Codex, u api.Rule, month, known int, values []int, owed string) {
		u.Known = pick(r, 0, known)
		u.When = expression(pick(r, never...))
		expectSame(t, with(c, u), month, known, values, owed)
		count++
	})
	if count < 1500 {
		t.Errorf("only %d rules", count)
	}
}

// P13.7: a rule of another kind than charges and rights changes nothing, whatever error it has.
func TestAnotherKind(t *testing.T) {
	count := 0
	further(3000, func(r *rand.Rand, c api.Codex, u api.Rule, month, known int, values []int, owed string) {
		if u.Kind == api.RuleCharge || u.Kind == api.RuleRight {
			return
		}
		u.Known, u.Days = pick(r, 0, known), api.Span{From: 0, Until: 36525}
		u.When = pick(r, u.When, node(api.OpTrue), expression("1 / (k - k) = 1"))
		expectSame(t, with(c, u), month, known, values, owed)
		count++
	})
	if count < 1000 {
		t.Errorf("only %d rules", count)
	}
}

// P13.7: a charge of a fixed amount adds this amount to every month that begins in its days, as known from its Known on, where the sum is an amount.
func TestFixedAmount(t *testing.T) {
	counts := map[string]int{}
	further(4000, func(r *rand.Rand, c api.Codex, u api.Rule, month, known int, values []int, owed string) {
		cents, rules, e := evaluate.Owes(c, month, known, values)
		if e != api.OK {
			return
		}
		fixed := pick(r, 0, 1, 100, r.IntN(1000000000), 1000000000, max(0, 1000000000-cents), max(0, 1000000001-cents))
		if fixed > 1000000000 {
			return
		}
		u.Kind, u.Act, u.When, u.Give = api.RuleCharge, "", node(api.OpTrue), number(fixed, 1, api.Unit{Money: 1})
		first := firstDay(month)
		switch r.IntN(4) {
		case 0:
			u.Days = api.Span{From: first, Until: first + 1}
		case 1:
			u.Days = api.Span{From: first + 1, Until: first + 2}
		}
		u.Known = min(36524, max(0, known+r.IntN(5)-3))
		want, isOwn := owed, u.Days.From <= first && first < u.Days.Until && u.Known <= known
		switch {
		case isOwn && cents+fixed > 1000000000:
			want = "ErrRange"
			counts["beyond"]++
		case isOwn:
			want = owesText(cents+fixed, append(slices.Clone(rules), len(c.Rules)), api.OK)
			counts["added"]++
		default:
			counts["same"]++
		}
		expectSame(t, with(c, u), month, known, values, want)
	})
	if counts["added"] < 300 || counts["same"] < 300 || counts["beyond"] < 50 {
		t.Errorf("only few amounts: %v", counts)
	}
}

// P13.7: a fixed amount in all months from its first day on, and in none before.
func TestFixedMonths(t *testing.T) {
	old := laws(always("charge x", "give k * m"), "right y 1 from 59 until 120 known 3 give 0.08 money;")
	for _, day := range []int{0, 1, 30, 31, 32, 59, 60, 366, 36493, 36494, 36495, 36524} {
		u := bylaws("charge z 1 from " + strconv.Itoa(day) + " known 5 give 0.50 money;").Rules[0]
		for month := range 1200 {
			for _, known := range []int{2, 4, 5, 6, 36524} {
				cents, rules, e := evaluate.Owes(old, month, known, tenant())
				if e != api.OK {
					t.Fatal(e)
				}
				if firstDay(month) >= day && known >= 5 {
					cents, rules = cents+50, append(slices.Clone(rules), 2)
				}
				expectSame(t, with(old, u), month, known, tenant(), owesText(cents, rules, api.OK))
			}
		}
	}
}
