package syntax_test

import (
	"math/rand"
	"strconv"
	"strings"
	"testing"

	"lychgate/api"
	"lychgate/lex"
)

func nots(n int) string { return "let a = " + repeat("not ", n) }

func TestParseTellsPolicies(t *testing.T) {
	name := func(s string, at int) api.Cond { return api.Cond{Kind: api.CondName, Name: s, At: at} }
	for s, want := range map[string][]api.Item{
		"":            nil,
		" # let a =;": nil,
		"let a = not (true or b) and port in { 80, 1 - 9 };": {{Kind: api.ItemLet, Name: "a", Cond: api.Cond{Kind: api.CondAnd, At: 8, Kids: []api.Cond{
			{Kind: api.CondNot, At: 8, Kids: []api.Cond{{Kind: api.CondOr, At: 13, Kids: []api.Cond{{Kind: api.CondTrue, At: 13}, name("b", 21)}}}},
			{Kind: api.CondPort, At: 28, Spans: []api.Span{{Lo: 80, Hi: 80}, {Lo: 1, Hi: 9}}}}}}},
		"allow x when a or b and c;": {{Kind: api.ItemAllow, Name: "x", Cond: api.Cond{Kind: api.CondOr, At: 13, Kids: []api.Cond{
			name("a", 13), {Kind: api.CondAnd, At: 18, Kids: []api.Cond{name("b", 18), name("c", 24)}}}}}},
		"deny x when ((a or b)) or c;": {{Kind: api.ItemDeny, Name: "x", Cond: api.Cond{Kind: api.CondOr, At: 14, Kids: []api.Cond{
			{Kind: api.CondOr, At: 14, Kids: []api.Cond{name("a", 14), name("b", 19)}}, name("c", 26)}}}},
		" let a=b;\tlet b=false;": {{Kind: api.ItemLet, Name: "a", Cond: name("b", 7), At: 1}, {Kind: api.ItemLet, Name: "b", Cond: api.Cond{Kind: api.CondFalse, At: 16}, At: 10}},
		"let a=addr in{10.0.0.1/32,1.2.3.4,0.0.0.0/0};": {{Kind: api.ItemLet, Name: "a", Cond: api.Cond{Kind: api.CondAddr, At: 6, Prefixes: []api.Prefix{
			{Addr: 10<<24 + 1, Bits: 32}, {Addr: 1<<24 + 2<<16 + 3<<8 + 4, Bits: 32}, {}}}}},
		`let a=(header "k" ~ "v");`:   {{Kind: api.ItemLet, Name: "a", Cond: api.Cond{Kind: api.CondHeader, Name: "k", Text: "v", At: 7}}},
		`let a=has"\"";`:              {{Kind: api.ItemLet, Name: "a", Cond: api.Cond{Kind: api.CondHas, Name: `"`, At: 6}}},
		`let a=path~"";`:              {{Kind: api.ItemLet, Name: "a", Cond: api.Cond{Kind: api.CondPath, At: 6}}},
		"let a=method in{PUT,A,PUT};": {{Kind: api.ItemLet, Name: "a", Cond: api.Cond{Kind: api.CondMethod, Names: []string{"PUT", "A", "PUT"}, At: 6}}},
		"let a=not not(not b);":       {{Kind: api.ItemLet, Name: "a", Cond: api.Cond{Kind: api.CondNot, At: 6, Kids: []api.Cond{{Kind: api.CondNot, At: 10, Kids: []api.Cond{{Kind: api.CondNot, At: 14, Kids: []api.Cond{name("b", 18)}}}}}}}},
	} {
		wanted := answer{policy: api.Policy{Items: want}}
		if got := checkParse(t, s); got.told() != wanted.told() {
			t.Errorf("Parse(%s):\n%s, want\n%s", short(s), got.told(), wanted.told())
		}
	}
}

func TestParseTellsFaults(t *testing.T) {
	for s, want := range map[string]answer{
		"let a = ;": {e: 90, at: 8}, "let a = true": {e: 90, at: 12}, "allow a = true;": {e: 90, at: 8}, "let a = port in {};": {e: 90, at: 17}, `let a = path "x";`: {e: 90, at: 13},
		"let a when true;": {e: 90, at: 6}, "let \"a\" = true;": {e: 90, at: 4}, `"let" a = true;`: {e: 90, at: 0}, `let a "=" true;`: {e: 90, at: 6}, `let a = "true";`: {e: 90, at: 8}, `let a = true";";`: {e: 90, at: 12}, `let a = true "and" b;`: {e: 90, at: 13},
		`let a = "("b);`: {e: 90, at: 8}, "let a = method in {80};": {e: 90, at: 19}, "let a = port in {1.2.3.4};": {e: 90, at: 17}, "let a = port in {1-1.2.3.4};": {e: 90, at: 19}, "let a = addr in {80};": {e: 90, at: 17}, "let a = method in GET;": {e: 90, at: 18}, "let a = port ~ \"80\";": {e: 90, at: 13}, "let a = port in (80);": {e: 90, at: 16}, "let a = port in {1-2-3};": {e: 90, at: 20}, "let a = port in {,};": {e: 90, at: 17}, "let a = port in {1": {e: 90, at: 18}, "let a = port in {1-": {e: 90, at: 19},
		`let a = has has;`: {e: 90, at: 12}, `let a = header a ~ "b";`: {e: 90, at: 15}, `let a = header "a" "b";`: {e: 90, at: 19}, `let a = header "a" ~ b;`: {e: 90, at: 21}, `let a = path ~ b;`: {e: 90, at: 15}, "let a = GET;": {e: 90, at: 8}, "let a = 1.2.3.4;": {e: 90, at: 8}, "let a = b = c;": {e: 90, at: 10}, "let a = b;;": {e: 90, at: 10}, "let a = ();": {e: 90, at: 9}, "let a = (b or);": {e: 90, at: 13}, "let a = b or or c;": {e: 90, at: 13}, "let a = or b;": {e: 90, at: 8}, "let a = b not c;": {e: 90, at: 10}, "let a = b (c);": {e: 90, at: 10}, "true;": {e: 90, at: 0}, "when": {e: 90, at: 0}, "let": {e: 90, at: 3}, "let a": {e: 90, at: 5}, "let a =": {e: 90, at: 7}, "let GET = b;": {e: 90, at: 4}, "let a = let;": {e: 90, at: 8}, "let a = in;": {e: 90, at: 8}, "let a = b; }": {e: 90, at: 11}, "let a = {b};": {e: 90, at: 8},
		"let a = ?;": {e: 80, at: 8}, "; 01": {e: 81, at: 2}, "; " + repeat("a", 33): {e: 82, at: 2}, `; "`: {e: 83, at: 2}, repeat(" ", 8001): {e: 84, at: 8000}, repeat(" ", 8000): {}, repeat(";", 8000): {e: 90, at: 0}, repeat(";", 8001): {e: 84, at: 8000},
	} {
		if got := checkParse(t, s); got.told() != want.told() {
			t.Errorf("Parse(%s): %s, want %s", short(s), short(got.told()), want.told())
		}
	}
}

func TestParseTellsTooDeep(t *testing.T) {
	for s, want := range map[string]answer{
		nots(16) + "true;": {e: 91, at: 8}, nots(17) + "true;": {e: 91, at: 12}, nots(30) + "true": {e: 91, at: 64}, nots(16) + "5;": {e: 90, at: 72}, nots(16) + "(b;": {e: 90, at: 74}, nots(16) + "(b);": {e: 91, at: 8}, nots(16) + "((b)": {e: 90, at: 76}, nots(16) + "port in {1": {e: 90, at: 82}, nots(16) + "port in {1}": {e: 91, at: 8}, nots(16) + "true ?": {e: 80, at: 77},
		nots(15) + "(b and c": {e: 90, at: 76}, nots(15) + "(b and c)": {e: 91, at: 8}, nots(15) + "(b and c or": {e: 90, at: 79}, nots(15) + "b and c": {e: 91, at: 8}, nots(15) + "b and c x": {e: 91, at: 8}, nots(15) + "b and c)": {e: 91, at: 8}, nots(15) + "b and c or d": {e: 91, at: 8}, nots(15) + "b and": {e: 90, at: 73}, nots(15) + "b and 5": {e: 90, at: 74}, nots(15) + "b and c and ;": {e: 90, at: 80}, nots(15) + "b or c and ;": {e: 90, at: 79}, nots(15) + "b or c and d or": {e: 90, at: 83}, nots(15) + "b or c and d": {e: 91, at: 8}, nots(15) + "b x": {e: 90, at: 70},
		"let a = " + repeat("(", 20) + repeat("not ", 16) + "b" + repeat(")", 20) + ";":             {e: 91, at: 28},
		"let a = ((" + repeat("not ", 15) + "b) and c);":                                            {e: 91, at: 10},
		"let a = c and " + repeat("not ", 15) + "b or d;":                                           {e: 91, at: 8},
		"let a = c and " + repeat("not ", 16) + "b or d;":                                           {e: 91, at: 14},
		"let a = " + repeat("(b and ", 16) + "c" + repeat(")", 16) + ";":                            {e: 91, at: 9},
		"let a = " + repeat("(b and ", 17) + "c" + repeat(")", 17) + ";":                            {e: 91, at: 16},
		"let a = " + repeat("(", 16) + "c" + repeat(" and b)", 16) + ";":                            {e: 91, at: 24},
		"let a = " + repeat("(", 17) + "c" + repeat(" and b) and (d)", 16) + ";":                    {e: 91, at: 25},
		"let a = b; let a = " + repeat("not ", 16) + "true; let a = " + repeat("not ", 20) + "true": {e: 91, at: 19},
	} {
		if got := checkParse(t, s); got.told() != want.told() {
			t.Errorf("Parse(%s): %s, want %s", short(s), short(got.told()), want.told())
		}
	}
	for _, s := range []string{
		nots(15) + "true;", nots(14) + "(b and c);", nots(14) + "b and c;", nots(13) + "b and c or d;", "let a = " + repeat("(", 3000) + "b" + repeat(")", 3000) + ";",
		"let a = " + repeat("(b and ", 15) + "c" + repeat(")", 15) + ";", "let a = " + repeat("(", 15) + "c" + repeat(" and b)", 15) + ";", "let a = " + repeat("not (", 15) + "c" + repeat(")", 15) + ";",
	} {
		if got := parse(s); got.e != api.OK || got.at != 0 || len(got.policy.Items) != 1 {
			t.Errorf("Parse(%s): %s", short(s), short(got.told()))
		}
	}
}

func TestParseTellsTooMany(t *testing.T) {
	for s, want := range map[string]answer{
		"let a = " + row("true", " and ", 33) + ";": {e: 92, at: 8 + 32*9}, "let a = " + row("b", " or ", 33) + ";": {e: 92, at: 8 + 32*5}, "let a = " + row("b", " or ", 40): {e: 92, at: 8 + 32*5}, "let a = " + row("b", " or ", 32) + " or 5;": {e: 90, at: 168}, "let a = " + row("b", " or ", 32) + " or": {e: 90, at: 167}, "let a = " + row("b", " or ", 32) + " or )": {e: 90, at: 168}, "let a = " + row("b", " or ", 32) + " or or": {e: 90, at: 168}, "let a = " + row("b", " or ", 32) + " or let": {e: 90, at: 168}, "let a = " + row("b", " or ", 32) + " or in": {e: 90, at: 168}, "let a = " + row("b", " or ", 32) + " or \"not\"": {e: 90, at: 168}, "let a = " + row("b", " or ", 32) + " or GET": {e: 90, at: 168},
		"let a = port in {" + row("80", ",", 33) + "};": {e: 92, at: 17 + 32*3}, "let a = port in {" + row("1-2", ",", 33): {e: 92, at: 17 + 32*4}, "let a = port in {" + row("80", ",", 32) + ",GET};": {e: 90, at: 113}, "let a = port in {" + row("80", ",", 32) + ",};": {e: 90, at: 113}, "let a = port in {" + row("80", ",", 32) + ",": {e: 90, at: 113},
		"let a = method in {" + row("A", ",", 33) + "};": {e: 92, at: 19 + 64}, "let a = method in {" + row("A", ",", 32) + ",80": {e: 90, at: 19 + 64}, "let a = addr in {" + row("1.2.3.4", ",", 33) + "};": {e: 92, at: 17 + 32*8}, "let a = addr in {" + row("1.2.3.4", ",", 32) + ",80};": {e: 90, at: 17 + 32*8},
		repeat("let a=b;", 101): {e: 92, at: 800}, repeat("let a=b;", 100) + "b": {e: 90, at: 800}, repeat("let a=b;", 100) + "deny": {e: 92, at: 800}, repeat("let a=b;", 100) + "  allow 5": {e: 92, at: 802}, repeat("let a=b;", 100) + "when": {e: 90, at: 800}, repeat("let a=b;", 100) + `"let"`: {e: 90, at: 800}, repeat("let a=b;", 100) + "?": {e: 80, at: 800},
		"let a = " + row("b and c", " or ", 33): {e: 92, at: 8 + 32*11}, "let a = " + row("b and c", " or ", 32) + " and d or e;": {e: 92, at: 8 + 32*11 - 4 + 10}, nots(15) + row("b", " and ", 33) + ";": {e: 92, at: 8 + 60 + 32*6}, nots(15) + row("b", " and ", 32) + ";": {e: 91, at: 8},
	} {
		if got := checkParse(t, s); got.told() != want.told() {
			t.Errorf("Parse(%s): %s, want %s", short(s), short(got.told()), want.told())
		}
	}
	for _, word := range strings.Fields("not true false addr port method path header has ( x") {
		for _, op := range []string{" and ", " or "} {
			head := "let a = " + row("b", op, 32) + op
			if got := parse(head + word); got.e != api.ErrSyntaxMany || got.at != len(head) {
				t.Errorf("%s as the word behind 32 parts: %s", word, short(got.told()))
			}
		}
	}
	for _, s := range []string{
		"let a = " + row("true", " and ", 32) + ";", "let a = " + row("b", " or ", 32) + ";", "let a = port in {" + row("80", ",", 32) + "};", "let a = port in {" + row("1-2", ",", 32) + "};", "let a = method in {" + row("A", ",", 32) + "};", "let a = addr in {" + row("1.2.3.4", ",", 32) + "};", "let a = " + row("b and c", " or ", 32) + ";",
		"let a = (" + row("b", " or ", 32) + ") or " + row("c", " or ", 31) + ";", "let a = " + row("b", " and ", 32) + " or " + row("b", " and ", 32) + ";", repeat("let a=b;", 100), "let a = port in {" + row("80", ",", 32) + "} or port in {" + row("80", ",", 32) + "};",
	} {
		if got := checkParse(t, s); got.e != api.OK {
			t.Errorf("Parse(%s): %s", short(s), short(got.told()))
		}
	}
}

// Each row of few tokens, behind what begins an item; where a fault was told, nothing that stands behind it is looked at.
func TestParseOfAllShortSources(t *testing.T) {
	walk := func(head string, pieces []string, most int) {
		var from func(c chart, s string, left int)
		from = func(c chart, s string, left int) {
			tokens, _, _ := lex.Scan(s)
			_, e, at := c.step(tokens[len(tokens)-1])
			want := answer{e: e, at: at}
			if e == api.OK {
				want = wordsParse(s)
			}
			if got := parse(s); got.told() != want.told() {
				t.Fatalf("Parse(%s): %s, want %s", short(s), got.told(), want.told())
			}
			if left == 0 {
				return
			}
			for _, piece := range pieces {
				next := s + " " + piece
				tokens, _, _ := lex.Scan(next)
				on, e, at := c.step(tokens[len(tokens)-2])
				if e == api.OK {
					from(on, next, left-1)
				} else if got := parse(next); got.told() != (answer{e: e, at: at}).told() {
					t.Fatalf("Parse(%s): %s, want %d %d", short(next), got.told(), e, at)
				}
			}
		}
		c := newChart()
		tokens, _, _ := lex.Scan(head)
		for _, token := range tokens[:len(tokens)-1] {
			c, _, _ = c.step(token)
		}
		from(c, head, most)
	}
	walk("let a =", []string{"b", "and", "or", "not", "(", ")", ";"}, 8)
	walk("let a = port in {", []string{"1", "-", ",", "}", ";", "GET"}, 9)
	walk("", []string{"let", "deny", "when", "a", "=", ";", "true"}, 12)
	walk("", strings.Fields(`let allow deny when and or not true false in addr port method path header has a GET 80 1.2.3.4 10.0.0.0/8 "t" { } ( ) , ; = ~ -`), 5)
	for _, head := range strings.Split("let a = addr|let a = port|let a = method|let a = path|let a = header|let a = has", "|") {
		walk(head, strings.Fields(`in a GET 80 1.2.3.4 "t" { } , ; ~ -`), 5)
	}
}

// Policies by chance, laid down in many ways: all parts, and where they begin.
func TestParseOfRandomPolicies(t *testing.T) {
	r := rand.New(rand.NewSource(9))
	for range 20000 {
		s, want := laid(randomPolicy(r), r)
		if len(s) > 8000 {
			continue
		}
		got := parse(s)
		if got.told() != (answer{policy: want}).told() {
			t.Fatalf("Parse(%s):\n%s, want\n%s", short(s), short(got.told()), short(answer{policy: want}.told()))
		}
	}
}

// Sources with a token more, less or another.
func TestParseOfDisturbedSources(t *testing.T) {
	r := rand.New(rand.NewSource(10))
	for range 4000 {
		s, _ := laid(randomPolicy(r), r)
		tokens := tokensOf(s)
		if len(tokens) == 0 || len(tokens) > 120 {
			continue
		}
		at := r.Intn(len(tokens))
		more := pick(r, "", "let", "and", "or", "not", "(", ")", ";", ",", "a", "in", "{", "}", "-", "80", "GET", "1.2.3.4", `"t"`, "true", "deny", "=", "~")
		tail := tokens[at+r.Intn(2):]
		checkParse(t, strings.Join(tokens[:at], " ")+" "+more+" "+strings.Join(tail, "\n"))
	}
}

// randomEdge is a condition whose depth and whose rows are about as great as they may be.
func randomEdge(r *rand.Rand, deep int) string {
	if deep == 0 {
		return pick(r, "b", "true", "port in {"+row("80", ",", 30+r.Intn(4))+"}", "x y")
	}
	switch r.Intn(6) {
	case 0:
		return "not " + randomEdge(r, deep-1)
	case 1:
		return "not(" + randomEdge(r, deep-1) + ")"
	case 2:
		return randomEdge(r, deep-1) + pick(r, " and ", " or ") + "c"
	case 3:
		return "(c " + pick(r, "and ", "or ") + randomEdge(r, deep-1) + ")"
	case 4:
		if r.Intn(4) == 0 {
			op := pick(r, " and ", " or ")
			return "(" + row("d", op, 30+r.Intn(4)) + op + randomEdge(r, deep-1) + ")"
		}
	}
	return "not not " + randomEdge(r, max(0, deep-2))
}

func TestParseAtTheEdges(t *testing.T) {
	r := rand.New(rand.NewSource(11))
	met := map[api.Errno]int{}
	for range 1200 {
		s := "let a = " + randomEdge(r, 13+r.Intn(6)) + pick(r, ";", ";", "; let", "", ")", " x")
		met[checkParse(t, s).e]++
	}
	for _, e := range []api.Errno{api.OK, api.ErrSyntaxDeep, api.ErrSyntaxToken, api.ErrSyntaxMany} {
		if met[e] < 30 {
			t.Errorf("error %s was met %d times", strconv.Itoa(int(e)), met[e])
		}
	}
}
