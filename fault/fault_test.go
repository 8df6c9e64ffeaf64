package fault_test

import (
	"fmt"
	"math"
	"regexp"
	"slices"
	"strconv"
	"strings"
	"testing"

	"tegula/api"
	"tegula/disktest"
	"tegula/fault"
)

// names are the words of the kinds, as the chapter lists them.
var names = map[int]string{
	api.FaultDrop: "drop", api.FaultTear: "tear", api.FaultStray: "stray", api.FaultFail: "fail",
	api.FaultOther: "other", api.FaultSlow: "slow", api.FaultDie: "die",
}

// valid decides by the definition whether a list is valid.
func valid(l []api.Fault) bool {
	for i, f := range l {
		for _, g := range l[:i] {
			if g.At >= f.At {
				return false
			}
		}
		switch f.Kind {
		case api.FaultStray, api.FaultOther:
			if f.To < 0 {
				return false
			}
		case api.FaultDrop, api.FaultTear, api.FaultFail, api.FaultSlow, api.FaultDie:
			if f.To != 0 {
				return false
			}
		default:
			return false
		}
		if f.At < 0 {
			return false
		}
	}
	return true
}

// text returns the text of a list, or the empty string if the list is not valid.
func text(l []api.Fault) string {
	if !valid(l) {
		return ""
	}
	s := ""
	for i, f := range l {
		if i > 0 {
			s += "; "
		}
		s += fmt.Sprintf("%s %d", names[f.Kind], f.At)
		if f.Kind == api.FaultStray || f.Kind == api.FaultOther {
			s += fmt.Sprintf(" to %d", f.To)
		}
	}
	return s
}

const decimal = `(0|[1-9][0-9]*)`

var (
	wholeText = regexp.MustCompile(`\A(` + oneText + `(; ` + oneText + `)*)?\z`)
	faultText = regexp.MustCompile(`\A([a-z]+) ` + decimal + `(?: to ` + decimal + `)?\z`)
)

const oneText = `((drop|tear|fail|slow|die) ` + decimal + `|(stray|other) ` + decimal + ` to ` + decimal + `)`

// parse returns the valid list with a text and true, or false if there is none, by regular expressions.
func parse(s string) ([]api.Fault, bool) {
	if !wholeText.MatchString(s) {
		return nil, false
	}
	var l []api.Fault
	if s == "" {
		return l, true
	}
	for _, part := range strings.Split(s, "; ") {
		m := faultText.FindStringSubmatch(part)
		f := api.Fault{}
		for kind, name := range names {
			if name == m[1] {
				f.Kind = kind
			}
		}
		var e error
		if f.At, e = strconv.Atoi(m[2]); e != nil {
			return nil, false
		}
		if m[3] != "" {
			if f.To, e = strconv.Atoi(m[3]); e != nil {
				return nil, false
			}
		}
		l = append(l, f)
	}
	return l, valid(l)
}

// singles lists faults, valid ones and others, whose numbers are near the bounds.
func singles() []api.Fault {
	var all []api.Fault
	for _, at := range []int{math.MinInt, -2, -1, 0, 1, 2, 9, 10, 1 << 31, math.MaxInt - 1, math.MaxInt} {
		for _, kind := range []int{math.MinInt, -1, 0, 1, 2, 3, 4, 5, 6, 7, 8, 9, math.MaxInt} {
			for _, to := range []int{math.MinInt, -1, 0, 1, 100, math.MaxInt} {
				all = append(all, api.Fault{At: at, Kind: kind, To: to})
			}
		}
	}
	return all
}

// small lists faults with small numbers, some of them invalid.
func small() []api.Fault {
	var all []api.Fault
	for at := -1; at < 3; at++ {
		for kind := api.FaultDrop - 1; kind <= api.FaultDie+1; kind++ {
			for to := -1; to < 2; to++ {
				all = append(all, api.Fault{At: at, Kind: kind, To: to})
			}
		}
	}
	return all
}

// lists lists lists of faults, valid ones and others.
func lists() [][]api.Fault {
	all := [][]api.Fault{nil, {}}
	for _, f := range singles() {
		all = append(all, []api.Fault{f})
	}
	for _, f := range small() {
		for _, g := range small() {
			all = append(all, []api.Fault{f, g})
		}
	}
	data := disktest.Numbers(13)
	for range 3000 {
		all = append(all, validList(&data, data.Between(0, 12)))
	}
	for range 3000 {
		l := validList(&data, data.Between(1, 12))
		f := &l[data.Between(0, len(l)-1)]
		switch data.Between(0, 2) {
		case 0:
			f.At = data.Between(-1, 30)
		case 1:
			f.Kind = data.Between(0, 8)
		case 2:
			f.To = data.Between(-2, 2)
		}
		all = append(all, l)
	}
	return all
}

// validList returns a valid list of n faults.
func validList(data *disktest.Numbers, n int) []api.Fault {
	l := make([]api.Fault, n)
	at := -1
	for i := range l {
		at += data.Between(1, 4)
		l[i] = api.Fault{At: at, Kind: data.Between(api.FaultDrop, api.FaultDie)}
		if l[i].Kind == api.FaultStray || l[i].Kind == api.FaultOther {
			l[i].To = data.Between(0, 200)
		}
	}
	return l
}

// P13.1: the examples of the chapter.
func TestExamples(t *testing.T) {
	want := []api.Fault{{At: 3, Kind: api.FaultDrop}, {At: 7, Kind: api.FaultStray, To: 12}, {At: 20, Kind: api.FaultDie}}
	const s = "drop 3; stray 7 to 12; die 20"
	if got, e := fault.Parse(s); !slices.Equal(got, want) || e != api.OK {
		t.Errorf("Parse(%q) = %v, %d", s, got, e)
	}
	if got := fault.Text(want); got != s {
		t.Errorf("Text(%v) = %q", want, got)
	}
	for _, s := range []string{"drop 03", "drop 3;", "die 20; drop 3", "stray 7"} {
		if got, e := fault.Parse(s); len(got) != 0 || e != api.ErrSyntax {
			t.Errorf("Parse(%q) = %v, %d", s, got, e)
		}
	}
}

// P13.1: Valid and Text, of valid lists and of lists that break each condition; P13.2: Parse returns every valid list from its text. P1: no call changes its argument.
func TestListsAndTexts(t *testing.T) {
	good := 0
	for _, l := range lists() {
		before := slices.Clone(l)
		if got := fault.Valid(l); got != valid(l) {
			t.Fatalf("Valid(%v) = %v", l, got)
		}
		s := fault.Text(l)
		if s != text(l) {
			t.Fatalf("Text(%v) = %q, want %q", l, s, text(l))
		}
		if !slices.Equal(l, before) {
			t.Fatalf("%v became %v", before, l)
		}
		if !valid(l) {
			continue
		}
		good++
		if got, e := fault.Parse(s); !slices.Equal(got, l) || e != api.OK {
			t.Fatalf("Parse(%q) = %v, %d, want %v", s, got, e, l)
		}
	}
	if good < 3000 {
		t.Errorf("only %d lists were valid", good)
	}
}

// P13.2: different valid lists have different texts.
func TestDifferentTexts(t *testing.T) {
	of := map[string][]api.Fault{}
	for _, l := range lists() {
		if !valid(l) {
			continue
		}
		s := fault.Text(l)
		if other, found := of[s]; found && !slices.Equal(l, other) {
			t.Fatalf("%v and %v have the text %q", l, other, s)
		}
		of[s] = l
	}
}

// checkParse compares Parse with the grammar.
func checkParse(t *testing.T, s string) {
	t.Helper()
	want, found := parse(s)
	wantE := api.OK
	if !found {
		want, wantE = nil, api.ErrSyntax
	}
	if got, e := fault.Parse(s); !slices.Equal(got, want) || e != wantE {
		t.Fatalf("Parse(%q) = %v, %d, want %v, %d", s, got, e, want, wantE)
	}
}

// P13.1: Parse of texts that are nearly those of lists: each byte is removed, replaced or repeated, or another one is put before it, and each two bytes change places.
func TestParseOfChangedTexts(t *testing.T) {
	const bytes = "0123456789 ;+-_.,odtsaxTD\n\t\x00\xff\u00e9"
	for _, s := range []string{
		"drop 3; stray 7 to 12; die 20", "tear 0; fail 1; other 10 to 0; slow 100", "stray 0 to 0",
		"slow 9223372036854775806; other 9223372036854775807 to 9223372036854775807",
	} {
		checkParse(t, s)
		for i := range len(s) + 1 {
			checkParse(t, s[:i])
			checkParse(t, s[i:])
			for _, b := range []byte(bytes) {
				checkParse(t, s[:i]+string([]byte{b})+s[i:])
				if i < len(s) {
					checkParse(t, s[:i]+string([]byte{b})+s[i+1:])
				}
			}
			if i < len(s) {
				checkParse(t, s[:i]+s[i+1:])
			}
			for k := i; k < len(s); k++ {
				checkParse(t, s[:i]+s[k:])
				changed := []byte(s)
				changed[i], changed[k] = changed[k], changed[i]
				checkParse(t, string(changed))
			}
		}
	}
}

// P13.1: Parse of all joins of few parts of texts.
func TestParseOfParts(t *testing.T) {
	parts := []string{"drop", "stray", "other", "die", " ", "; ", " to ", "0", "1", "2", "-", "drop 1", "tear 2"}
	var join func(s string, left int)
	join = func(s string, left int) {
		checkParse(t, s)
		if left == 0 {
			return
		}
		for _, p := range parts {
			join(s+p, left-1)
		}
	}
	join("", 5)
}

// P13.1: Parse of texts that differ from each form in one point.
func TestParseErrors(t *testing.T) {
	for _, s := range []string{
		" ", ";", "; ", "drop", "drop ", " drop 1", "drop 1 ", "drop  1", "Drop 1", "DROP 1", "crash 1", "dro 1", "drops 1", " 1", "1",
		"drop 1; ", "; drop 1", "drop 1;drop 2", "drop 1 ;drop 2", "drop 1,drop 2", "drop 1;  drop 2", "drop 1; ; drop 2", "drop 1\ndrop 2",
		"drop 2; drop 1", "drop 1; drop 1", "drop 1; tear 1", "drop 9; drop 10; drop 10",
		"drop 00", "drop 01", "drop +1", "drop -1", "drop -0", "drop 1_0", "drop 0x1", "drop 1e1", "drop 1.0", "drop \u0661",
		"drop 9223372036854775808", "drop 18446744073709551617", "drop 99999999999999999999999999",
		"stray 1", "stray 1 to", "stray 1 to ", "stray to 1", "stray 1 2", "stray 1 to -1", "stray 1 to 01", "stray 1 to +1", "stray 1 to 1 to 1",
		"stray 01 to 1", "stray 1  to 1", "stray 1 to  1", "stray 1 to 9223372036854775808", "stray 9223372036854775808 to 1", "other 1 to",
		"drop 1 to 1", "drop 1 to 0", "tear 1 to 0", "fail 1 to 0", "slow 1 to 0", "die 1 to 0", "die 1 to ",
		"stray 1 to 1; stray 1 to 2", "other 2 to 1; stray 1 to 2", "drop 9223372036854775807; drop 9223372036854775808",
	} {
		if l, e := fault.Parse(s); len(l) != 0 || e != api.ErrSyntax {
			t.Errorf("Parse(%q) = %v, %d", s, l, e)
		}
		checkParse(t, s)
	}
	for _, s := range []string{"", "drop 0", "stray 0 to 0", "drop 9223372036854775806; other 9223372036854775807 to 9223372036854775807"} {
		if _, e := fault.Parse(s); e != api.OK {
			t.Errorf("Parse(%q): error %d", s, e)
		}
		checkParse(t, s)
	}
}

// numbers lists numbers of operations at and near the faults of a list, and at the bounds.
func numbers(l []api.Fault) []int {
	all := []int{math.MinInt, -1, 0, 1, math.MaxInt - 1, math.MaxInt}
	for _, f := range l {
		all = append(all, f.At)
		if f.At < math.MaxInt {
			all = append(all, f.At+1)
		}
	}
	slices.Sort(all)
	return slices.Compact(all)
}

// P13.1: At and Within of any lists, also of those that are not valid, where At returns the first one of several faults. P13.3: At finds a fault exactly if Within of this one number is not empty.
func TestAtAndWithin(t *testing.T) {
	for _, l := range lists() {
		before := slices.Clone(l)
		for _, from := range numbers(l) {
			for _, to := range numbers(l) {
				var want []api.Fault
				for _, f := range l {
					if from <= f.At && f.At < to {
						want = append(want, f)
					}
				}
				if got := fault.Within(l, from, to); !slices.Equal(got, want) {
					t.Fatalf("Within(%v, %d, %d) = %v, want %v", l, from, to, got, want)
				}
			}
			checkAt(t, l, from)
		}
		if !slices.Equal(l, before) {
			t.Fatalf("%v became %v", before, l)
		}
	}
}

// checkAt checks At of one number.
func checkAt(t *testing.T, l []api.Fault, op int) {
	t.Helper()
	var want api.Fault
	exists := false
	for i := len(l) - 1; i >= 0; i-- {
		if l[i].At == op {
			want, exists = l[i], true
		}
	}
	f, found := fault.At(l, op)
	if f != want || found != exists {
		t.Fatalf("At(%v, %d) = %v, %v, want %v, %v", l, op, f, found, want, exists)
	}
	// no number follows the largest one, so that there is no Within of this one
	if op < math.MaxInt && found != (len(fault.Within(l, op, op+1)) > 0) {
		t.Fatalf("At(%v, %d) = %v, but Within has %v", l, op, found, fault.Within(l, op, op+1))
	}
}

// P13.3: a valid list is the concatenation of its parts up to any number and from this number on.
func TestParts(t *testing.T) {
	for _, l := range lists() {
		if !valid(l) || len(l) > 0 && l[len(l)-1].At == math.MaxInt {
			continue
		}
		for _, n := range numbers(l) {
			if both := slices.Concat(fault.Within(l, math.MinInt, n), fault.Within(l, n, math.MaxInt)); !slices.Equal(both, l) {
				t.Fatalf("%v becomes %v at %d", l, both, n)
			}
			if n < 0 {
				continue
			}
			if both := slices.Concat(fault.Within(l, 0, n), fault.Within(l, n, math.MaxInt)); !slices.Equal(both, l) {
				t.Fatalf("%v from 0 becomes %v at %d", l, both, n)
			}
		}
	}
}

// P1: results are new memory.
func TestNewMemory(t *testing.T) {
	l := []api.Fault{{At: 1, Kind: api.FaultDrop}, {At: 2, Kind: api.FaultTear}, {At: 3, Kind: api.FaultDie}}
	before := slices.Clone(l)
	for _, part := range [][]api.Fault{fault.Within(l, 0, 9), fault.Within(l, 1, 3), fault.Within(l, 3, 4)} {
		part[0] = api.Fault{}
		_ = append(part, api.Fault{At: 99})
		if !slices.Equal(l, before) {
			t.Fatalf("the list became %v", l)
		}
	}
	k, _ := fault.Parse("drop 1; die 2")
	k[0] = api.Fault{}
	if again, _ := fault.Parse("drop 1; die 2"); again[0] != (api.Fault{At: 1, Kind: api.FaultDrop}) {
		t.Errorf("Parse returned %v after its first result was changed", again)
	}
}

// P13.1: long lists.
func TestLongList(t *testing.T) {
	data := disktest.Numbers(131)
	l := validList(&data, 20000)
	s := fault.Text(l)
	if s != text(l[:1])+"; "+fault.Text(l[1:]) {
		t.Error("the text of the rest differs")
	}
	if got, e := fault.Parse(s); !slices.Equal(got, l) || e != api.OK {
		t.Errorf("Parse returns %d faults, error %d", len(got), e)
	}
	l[19999].At = l[19998].At
	if fault.Valid(l) || fault.Text(l) != "" {
		t.Error("a list with two faults of one operation is valid")
	}
}
