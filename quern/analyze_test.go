package quern

import (
	"math"
	"strings"
	"testing"

	"quern/api"
)

// ways lists all ways to work.
func ways() []api.Config {
	var l []api.Config
	for k := range 16 {
		for _, o := range []api.Order{api.First, api.Last, api.Phases} {
			l = append(l, api.Config{Order: o, Cycles: k&1 > 0, Collapse: k&2 > 0, Substitute: k&4 > 0, Deltas: k&8 > 0})
		}
	}
	return l
}

// checkSolution tells which ways to work do not come to that text.
func checkSolution(t *testing.T, file, want string) {
	t.Helper()
	for _, c := range ways() {
		checkWay(t, file, c, want)
	}
}

func checkWay(t *testing.T, file string, c api.Config, want string) {
	t.Helper()
	if r, e := Analyze(file, c); r.Text != want || e != (api.Error{}) {
		t.Fatalf("P5, P9: %q by %+v: %q, %v, want %q", file, c, r.Text, e, want)
	}
}

func checkAnalyzeError(t *testing.T, what, file string, c api.Config, want api.Error) {
	t.Helper()
	if r, e := Analyze(file, c); e != want || r != (api.Result{}) {
		t.Errorf("P5: %s by %+v: %+v, %v, want %v", what, c, r, e, want)
	}
}

func TestAnalyzeExamples(t *testing.T) {
	checkSolution(t, "p = &a\nq = p", "a:\np: a\nq: a\n")
	checkSolution(t, "p = &a\na = &b\nq = *p", "a: b\nb:\np: a\nq: b\n")
	checkSolution(t, "p = &a\nq = &b\n*p = q", "a: b\nb:\np: a\nq: b\n")
	checkSolution(t, "x = y # and back\n\ny=x\n*x=x\nx=&x", "x: x\ny: x\n")
	for _, line := range []string{"p = a b", "1 = a", "p = &&a", "*p = *q", "p"} {
		checkAnalyzeError(t, line, line, api.Config{}, at(api.ErrForm, 1))
	}
}

func TestAnalyzeNothing(t *testing.T) {
	for _, file := range []string{"", "\n", " \t\n# p = &a\n", strings.Repeat("\n", api.MaxFile)} {
		checkSolution(t, file, "")
	}
}

func TestAnalyzeSingleFacts(t *testing.T) {
	checkSolution(t, "p = &q", "p: q\nq:\n")
	checkSolution(t, "p = q", "p:\nq:\n")
	checkSolution(t, "p = *q", "p:\nq:\n")
	checkSolution(t, "*p = q", "p:\nq:\n")
	checkSolution(t, "p = &p", "p: p\n")
	checkSolution(t, "p = p", "p:\n")
	checkSolution(t, "p = *p", "p:\n")
	checkSolution(t, "*p = p", "p:\n")
}

func TestAnalyzeGoesOneWay(t *testing.T) {
	checkSolution(t, "p = q\np = &a", "a:\np: a\nq:\n")
	checkSolution(t, "p = *q\nq = &a\np = &b", "a:\nb:\np: b\nq: a\n")
	checkSolution(t, "*p = q\np = &a\na = &b", "a: b\nb:\np: a\nq:\n")
	checkSolution(t, "*p = q\nq = &b", "b:\np:\nq: b\n")
	checkSolution(t, "p = *q\nq = &a\nr = &b\nb = &c", "a:\nb: c\nc:\np:\nq: a\nr: b\n")
}

func TestAnalyzeNamesThatPointToThemselves(t *testing.T) {
	checkSolution(t, "p = &p\nq = *p", "p: p\nq: p\n")
	checkSolution(t, "p = &p\n*p = q\nq = &a", "a: a\np: a p\nq: a\n")
	checkSolution(t, "p = &p\np = &a\na = &b\np = *p", "a: b\nb:\np: a b p\n")
	checkSolution(t, "p = &a\na = &p\np = *p", "a: p\np: a p\n")
	checkSolution(t, "p = &a\n*p = p", "a: a\np: a\n")
	checkSolution(t, "p = &p\np = &a\n*p = p", "a: a p\np: a p\n")
}

func TestAnalyzeCycles(t *testing.T) {
	checkSolution(t, "a = b\nb = c\nc = a\na = &x\nc = &y\nd = a\nc = e\ne = &z\nf = &x", "a: x y z\nb: x y z\nc: x y z\nd: x y z\ne: z\nf: x\nx:\ny:\nz:\n")
	checkSolution(t, "a = b\nb = a\nc = d\nd = c\nc = b\na = &x\nd = &y", "a: x\nb: x\nc: x y\nd: x y\nx:\ny:\n")
	// By way of loads: u and v come to the same only once h points to v.
	checkSolution(t, "u = *h\nv = u\nh = &v\nu = &x\nv = &y", "h: v\nu: x y\nv: x y\nx:\ny:\n")
	// By way of stores.
	checkSolution(t, "*h = u\nu = v\nh = &v\nu = &x\nv = &y", "h: v\nu: x y\nv: x y\nx:\ny:\n")
	// By way of a store and a load.
	checkSolution(t, "*h = u\nu = *h\nh = &v\nh = &w\nu = &x\nv = &y\nw = &z", "h: v w\nu: x y z\nv: x y z\nw: x y z\nx:\ny:\nz:\n")
	// By way of pointers that are themselves found out only by and by.
	checkSolution(t, "*g = a\n*h = b\nb = *g\na = *h\ng = &k\nh = &k\nh = &g\na = &x\nb = &h", "a: g h k x\nb: g h k x\ng: g h k x\nh: g h k x\nk: g h k x\nx: g h k x\n")
}

func TestAnalyzeChains(t *testing.T) {
	for n := 2; n < api.MaxNames; n++ {
		down, up, text := "", "", name(0)+":\n"
		for i := range n - 1 {
			line := name(i+1) + " = " + name(i) + "\n"
			down, up = line+down, up+line
			text += name(i+1) + ": z\n"
		}
		text = strings.Replace(text, ":\n", ": z\n", 1) + "z:\n"
		first := name(0) + " = &z\n"
		checkSolution(t, first+up, text)
		checkSolution(t, down+first, text)
	}
}

func TestAnalyzeLoadsDeep(t *testing.T) {
	// Each name points to the one ahead of it, and q1 = *p, q2 = *q1 and so on go down the steps.
	file, text := "q0 = &"+name(9)+"\n", ""
	for i := range 9 {
		file += name(i+1) + " = &" + name(i) + "\n"
	}
	for i := range 9 {
		file += "q" + string(rune('1'+i)) + " = *q" + string(rune('0'+i)) + "\n"
	}
	text += name(0) + ":\n"
	for i := range 9 {
		text += name(i+1) + ": " + name(i) + "\n"
	}
	for i := range 10 {
		text += "q" + string(rune('0'+i)) + ": " + name(9-i) + "\n"
	}
	checkSolution(t, file, text)
}

func TestAnalyzeOrderOfNames(t *testing.T) {
	checkSolution(t, "b = &a0\nb = &a\nb = &_\nb = &Z\nb = &a_\nb = &aA\nb = &B9\nb = &aa", "B9:\nZ:\n_:\na:\na0:\naA:\na_:\naa:\nb: B9 Z _ a a0 aA a_ aa\n")
}

func TestAnalyzeConfig(t *testing.T) {
	for _, o := range []api.Order{api.First - 1, api.Phases + 1, math.MinInt, math.MaxInt, 1 << 32, 256} {
		for _, c := range ways() {
			c.Order = o
			checkAnalyzeError(t, "an Order that is none", "p = &a", c, at(api.ErrConfig, 0))
			checkAnalyzeError(t, "config ahead of form", "a = b\n?", c, at(api.ErrConfig, 0))
			checkAnalyzeError(t, "config ahead of long", strings.Repeat("\n", api.MaxFile+1), c, at(api.ErrConfig, 0))
			checkAnalyzeError(t, "config, and no file", "", c, at(api.ErrConfig, 0))
		}
	}
}

func TestAnalyzeErrorsOfParse(t *testing.T) {
	names := ""
	for i := range api.MaxNames {
		names += "*" + name(i) + " = " + name(0) + "\n"
	}
	for _, b := range []struct {
		what, file string
		want       api.Error
	}{
		{"long", fill("a = b\n", api.MaxFile+1), at(api.ErrLong, 0)},
		{"wide", "\na = b" + strings.Repeat(" ", api.MaxLine-4), at(api.ErrWide, 2)},
		{"form", "a = &b\na = b\n\n&a = b\n", at(api.ErrForm, 4)},
		{"name", "a = b\na = *" + tooWide, at(api.ErrName, 2)},
		{"many", copies(api.MaxFacts + 1), at(api.ErrMany, api.MaxFacts+1)},
		{"full", names + "x = " + name(0), at(api.ErrFull, api.MaxNames+1)},
	} {
		for _, c := range ways() {
			checkAnalyzeError(t, b.what, b.file, c, b.want)
		}
	}
}

// fullFile makes a file of MaxFile bytes: MaxFacts facts, of MaxNames names of
// MaxName bytes, each of which may point to all.
func fullFile() string {
	wide := func(i int) string { return "abcdefgh" + name(i%api.MaxNames) }
	var file strings.Builder
	line := func(text string) {
		file.WriteString(text + strings.Repeat(" ", 49-len(text)) + "\n")
	}
	for i := range api.MaxNames {
		line(wide(0) + " = &" + wide(i))
		line(wide(i+1) + " = " + wide(i))
		if i%2 == 0 {
			line(wide(i) + " = *" + wide(i+7))
		} else {
			line("*" + wide(i) + " = " + wide(i+7))
		}
	}
	return file.String()
}

func TestAnalyzeAtAllLimits(t *testing.T) {
	file := fullFile()
	list, e := Parse(file)
	if len(file) != api.MaxFile || len(list) != api.MaxFacts || e != (api.Error{}) {
		t.Fatalf("P3: %d bytes, %d facts, %v", len(file), len(list), e)
	}
	all := ""
	for i := range api.MaxNames {
		all += " abcdefgh" + name(i)
	}
	want := ""
	for i := range api.MaxNames {
		want += "abcdefgh" + name(i) + ":" + all + "\n"
	}
	checkSolution(t, file, want)
	line := "a = &b #" + strings.Repeat("x", api.MaxLine-8)
	checkSolution(t, line, "a: b\nb:\n")
	checkSolution(t, line+"\n"+line, "a: b\nb:\n")
}

func TestAnalyzeAnswersNewMemory(t *testing.T) {
	for _, file := range []string{someFile, "p = &" + widest, fullFile()} {
		for _, c := range ways() {
			r, e := Analyze(file, c)
			if shares(r.Text, file) {
				t.Errorf("P2: the answer shares memory with %q", file)
			}
			again, f := Analyze(file, c)
			if again != r || e != f {
				t.Errorf("P2: %q by %+v: %+v, %v, at first %+v, %v", file, c, again, f, r, e)
			}
			if shares(r.Text, again.Text) {
				t.Errorf("P2: two answers to %q share memory", file)
			}
		}
	}
}
