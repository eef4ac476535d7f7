package schema_test

import (
	"math/rand"
	"regexp"
	"strconv"
	"strings"
	"testing"

	"coracle/api"
	"coracle/schema"
)

// nested: n brackets of one kind in one another.
func nested(open, inner, shut string, n int) string {
	return strings.Repeat(open, n) + inner + strings.Repeat(shut, n)
}

var forms = []string{
	"", "u", "q", "b", "uqb", "o0", "o8", "o99999", "f0", "f1", "f99999", "o10f10u",
	"?()", "?(u)", "?(?(u)q)", "*(u)", "*(f0)", "*(?())", "*(<0:>)", "*(*(u))",
	"<0:>", "<99999:>", "<-:>", "<-:u>", "<0:u,1:q>", "<0:,-:>", "<1:u,0:q,-:b>", "<0:?(u),1:<0:u,-:>,-:*(b)>",
	"<0:,10:,100:>", "u?(u)*(b)<0:,1:q,-:>o8",
	strings.Repeat("u", 1000),
	nested("?(", "", ")", api.MaxNest),
	nested("*(", "u", ")", api.MaxNest),
	nested("<0:", "u", ">", api.MaxNest),
	nested("?(", "u", ")", api.MaxNest) + nested("*(", "u", ")", api.MaxNest), // side by side isn't in one another
	strings.Repeat("?()", 2*api.MaxNest), strings.Repeat("*(u)", 2*api.MaxNest), strings.Repeat("<0:>", 2*api.MaxNest),
	nested("?(*(", "u", "))", api.MaxNest/2),
	"<0:" + nested("?(", "u", ")", api.MaxNest-1) + ",1:" + nested("?(", "u", ")", api.MaxNest-1) + ">",
}

var noForms = []string{
	" ", "u ", " u", "u u", "x", "U", "0", "1u", "-", ":", ",", "(", ")", "<", ">", "?", "*", "é", "\x00", "u\x00", "\xff",
	"o", "f", "ou", "o-1", "o+1", "o 1", "o00", "o01", "f00", "f08", "o100000", "f100000", "o000001", "o1.5", "u8", "q1", "b1",
	"o٣", "o①",
	"(u)", "?u", "?", "?(", "?(u", "?u)", "?(u))", "?()(", "*", "*(", "*(u", "*()", "*u", "?(*())", "*(*())", "<0:*()>", "?[u]",
	"<>", "<", "<0", "<0:", "<0:u", "<0>", "<:>", "<:u>", "<u>", "<0u>", "<0:u,>", "<,0:u>", "<0:u,,1:u>", "<0:u;1:u>",
	"<-:u,1:>", "<-:,-:>", "<0:,-:,1:>", "<0:,-:,-:>", "<->", "<-1:>", "<--:>", "<0-:>",
	"<1:u,1:q>", "<0:,1:,0:>", "<5:,4:,3:,2:,1:,3:,-:>", "<00:>", "<01:>", "<100000:>", "<o1:>",
	"<0:u)", "?(u>", "<0:(u)>", "<0:u>>", "?(<0:u)>", "u,u", "u:", "<0:u:>", "<0:1:u>",
	strings.Repeat("u", 1001),
	strings.Repeat("u", 100000),
	nested("?(", "", ")", api.MaxNest+1),
	nested("*(", "u", ")", api.MaxNest+1),
	nested("<0:", "u", ">", api.MaxNest+1),
	nested("?(*(", "b", "))", api.MaxNest/2) + nested("?(*(", "?(b)", "))", api.MaxNest/2),
	nested("?(", "", ")", 300),
	nested("?(", "", "", 500),
}

// P2.1: forms, and what is none.
func TestCheck(t *testing.T) {
	for _, f := range forms {
		if !schema.Check(f) {
			t.Errorf("%q is a form", f)
		}
	}
	for _, f := range noForms {
		if schema.Check(f) {
			t.Errorf("%q is no form", f)
		}
	}
}

var (
	plainSign  = regexp.MustCompile(`u|q|b|[of](0|[1-9][0-9]{0,4})`)
	maybeSign  = regexp.MustCompile(`\?\(x*\)|\*\(x+\)`)
	choiceSign = regexp.MustCompile(`<((0|[1-9][0-9]{0,4}|-):x*,)*(0|[1-9][0-9]{0,4}|-):x*>`)
	onlySigns  = regexp.MustCompile(`^x*$`)
)

// isForm: is it a form (but for its length and its nesting)? Told by writing x for each sign, from the inmost ones on.
func isForm(f string) bool {
	if strings.Contains(f, "x") {
		return false
	}
	f = plainSign.ReplaceAllString(f, "x")
	for {
		g := maybeSign.ReplaceAllString(f, "x")
		g = choiceSign.ReplaceAllStringFunc(g, choiceOrNot)
		if g == f {
			return onlySigns.MatchString(f)
		}
		f = g
	}
}

// choiceOrNot: x, where no K comes twice and - is the last one.
func choiceOrNot(choice string) string {
	seen := map[string]bool{}
	for _, arm := range strings.Split(strings.Trim(choice, "<>"), ",") {
		k, _, _ := strings.Cut(arm, ":")
		if seen[k] || seen["-"] {
			return choice
		}
		seen[k] = true
	}
	return "x"
}

// P2.1: all short texts of the signs' bytes.
func TestCheckShort(t *testing.T) {
	texts := []string{""}
	for range 4 {
		var longer []string
		for _, s := range texts {
			for _, c := range "uf01?*()<:,->" {
				longer = append(longer, s+string(c))
			}
		}
		for _, s := range longer {
			if schema.Check(s) != isForm(s) {
				t.Errorf("%q: %t", s, schema.Check(s))
			}
		}
		texts = longer
	}
}

// P2.1: forms by chance, and forms with a byte changed, taken or put in.
func TestCheckSpoilt(t *testing.T) {
	chance := rand.New(rand.NewSource(2))
	for range 20000 {
		f := drawSign(chance, 3).form + drawSign(chance, 2).form
		if !schema.Check(f) {
			t.Fatalf("%q is a form", f)
		}
		at := chance.Intn(len(f) + 1)
		end := min(at+chance.Intn(2), len(f))
		spoilt := f[:at] + []string{"", "u", "o", "0", "1", "?", "*", "(", ")", "<", ">", ":", ",", "-", "-:", ","}[chance.Intn(16)] + f[end:]
		if schema.Check(spoilt) != isForm(spoilt) {
			t.Fatalf("%q: %t", spoilt, schema.Check(spoilt))
		}
	}
}

// P2.2, P2.3: what is no form is ErrArg ahead of all else.
func TestNoForm(t *testing.T) {
	long := strings.Repeat("x", api.MaxText+4)
	for _, f := range noForms {
		for _, s := range []string{"", "\x00\x00\x00\x01", long} {
			if v, e := schema.Decode(f, s); e != api.ErrArg || !isEmpty(v) {
				t.Errorf("Decode %q: %d", f, e)
			}
		}
		for _, v := range []api.Value{{}, {N: []int{-1}}, {T: []string{long}}} {
			if s, e := schema.Encode(f, v); e != api.ErrArg || s != "" {
				t.Errorf("Encode %q: %d", f, e)
			}
		}
	}
}

// P2.1: as many arms as a form holds.
func TestManyArms(t *testing.T) {
	var arms []string
	for k := range 200 {
		arms = append(arms, strconv.Itoa(k)+":")
	}
	f := "<" + strings.Join(arms, ",") + ">"
	if !schema.Check(f) || schema.Check(strings.Replace(f, ",7:", ",199:", 1)) {
		t.Error("200 arms")
	}
	if _, e := schema.Encode(f, api.Value{N: []int{199}}); e != api.OK {
		t.Error("the last arm")
	}
	if _, e := schema.Encode(f, api.Value{N: []int{200}}); e != api.ErrForm {
		t.Error("no arm")
	}
}
