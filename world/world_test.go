package world_test

import (
	"math"
	"slices"
	"strconv"
	"strings"
	"testing"
	"unsafe"

	"thresher/api"
	"thresher/probe"
	"thresher/world"
)

// model is a world told once more: all that it knows it tells from its script, the acts so far, and how often the clock was asked.
type model struct {
	script api.Script
	acts   []api.Act
	asked  int
}

func (m *model) input(name string) ([]string, bool) {
	if name == "" || name == "-" {
		return m.script.Stdin, true
	}
	at := slices.IndexFunc(m.script.Files, func(f api.File) bool { return f.Name == name })
	if at < 0 {
		return nil, false
	}
	return m.script.Files[at].Chunks, true
}

func (m *model) do(kind api.ActKind, name, data string) {
	m.acts = append(m.acts, api.Act{Kind: kind, Name: name, Data: data})
}

func (m *model) run(kind api.ActKind, line string) ([]string, int) {
	calls := 0
	for _, a := range m.acts {
		if (a.Kind == api.ActRun || a.Kind == api.ActSystem) && a.Name == line {
			calls++
		}
	}
	m.do(kind, line, "")
	for _, c := range m.script.Cmds {
		if c.Line != line {
			continue
		}
		if calls == 0 {
			return c.Chunks, c.Status
		}
		calls--
	}
	return nil, 127
}

// openings: the acts by which what is open now was opened, in order.
func (m *model) openings() []api.Act {
	var l []api.Act
	for _, a := range m.acts {
		switch a.Kind {
		case api.ActOpen, api.ActMore, api.ActPipe:
			l = append(l, a)
		case api.ActClose, api.ActEnd:
			l = slices.DeleteFunc(l, func(o api.Act) bool {
				return o.Name == a.Name && (o.Kind == api.ActPipe) == (a.Kind == api.ActEnd)
			})
		}
	}
	return l
}

func (m *model) written() int {
	n := 0
	for _, a := range m.acts {
		n += len(a.Data)
	}
	return n
}

func (m *model) write(to api.To, name, data string) api.Errno {
	kinds := map[api.To][2]api.ActKind{api.ToOut: {0, 1}, api.ToFile: {2, 5}, api.ToMore: {3, 5}, api.ToPipe: {4, 6}}
	kind, good := kinds[to]
	if !good {
		return api.ErrRange
	}
	if m.written()+len(data) > api.MaxTrace {
		return api.ErrLong
	}
	if to == api.ToOut {
		m.do(kind[1], "", data)
		return api.OK
	}
	open := m.openings()
	if !slices.ContainsFunc(open, func(o api.Act) bool { return o.Name == name && (o.Kind == api.ActPipe) == (to == api.ToPipe) }) {
		if len(open) >= api.MaxOpen {
			return api.ErrMany
		}
		m.do(kind[0], name, "")
	}
	m.do(kind[1], name, data)
	return api.OK
}

func (m *model) close(name string) int {
	answer := -1
	for _, o := range m.openings() {
		if o.Name == name {
			m.end(o)
			answer = 0
		}
	}
	return answer
}

func (m *model) end(o api.Act) {
	kind := api.ActClose
	if o.Kind == api.ActPipe {
		kind = api.ActEnd
	}
	m.do(kind, o.Name, "")
}

func (m *model) endAll() {
	for _, o := range m.openings() {
		m.end(o)
	}
}

func (m *model) clock() int {
	m.asked++
	if len(m.script.Clock) == 0 {
		return 0
	}
	return m.script.Clock[min(m.asked, len(m.script.Clock))-1]
}

// pair is a world and its model: each call is done to both, and the answers are held together.
type pair struct {
	t *testing.T
	w *world.World
	m *model
}

func newPair(t *testing.T, s api.Script) pair {
	t.Helper()
	w := world.New(s)
	if w == nil {
		t.Fatal("New: nil")
	}
	return pair{t, w, &model{script: s}}
}

func (p pair) input(name string) {
	p.t.Helper()
	got, ok := p.w.Input(name)
	want, wanted := p.m.input(name)
	if !slices.Equal(got, want) || ok != wanted {
		p.t.Fatalf("Input(%q): %q and %v instead of %q and %v", name, got, ok, want, wanted)
	}
}

func (p pair) run(line string) {
	p.t.Helper()
	got, status := p.w.Run(line)
	want, wanted := p.m.run(api.ActRun, line)
	if !slices.Equal(got, want) || status != wanted {
		p.t.Fatalf("Run(%q): %q and %d instead of %q and %d", line, got, status, want, wanted)
	}
}

func (p pair) system(line string) {
	p.t.Helper()
	if _, want := p.m.run(api.ActSystem, line); p.w.System(line) != want {
		p.t.Fatalf("System(%q): not %d", line, want)
	}
}

func (p pair) write(to api.To, name, data string) api.Errno {
	p.t.Helper()
	got, want := p.w.Write(to, name, data), p.m.write(to, name, data)
	if got != want {
		p.t.Fatalf("Write(%d, %q, %d bytes): %d instead of %d", to, name, len(data), got, want)
	}
	return got
}

func (p pair) close(name string) {
	p.t.Helper()
	if got, want := p.w.Close(name), p.m.close(name); got != want {
		p.t.Fatalf("Close(%q): %d instead of %d", name, got, want)
	}
}

func (p pair) end() {
	p.w.End()
	p.m.endAll()
}

func (p pair) clock() {
	p.t.Helper()
	if got, want := p.w.Clock(), p.m.clock(); got != want {
		p.t.Fatalf("Clock, asked %d times: %d instead of %d", p.m.asked, got, want)
	}
}

// check holds the acts and the environment, and what P15.2 says of the acts.
func (p pair) check() {
	p.t.Helper()
	got := p.w.Acts()
	if !slices.Equal(got, p.m.acts) {
		p.t.Fatalf("Acts: %v instead of %v", got, p.m.acts)
	}
	if env := p.w.Env(); !slices.Equal(env, p.m.script.Env) {
		p.t.Fatalf("Env: %v instead of %v", env, p.m.script.Env)
	}
	follow(p.t, got)
}

// door: what may be open.
type door struct {
	name string
	pipe bool
}

// follow goes through acts as they come, and answers what is open behind the last.
func follow(t *testing.T, acts []api.Act) map[door]bool {
	t.Helper()
	open := map[door]bool{}
	bytes := 0
	for i, a := range acts {
		d := door{a.Name, a.Kind == api.ActPipe || a.Kind == api.ActFeed || a.Kind == api.ActEnd}
		bytes += len(a.Data)
		good := true
		switch a.Kind {
		case api.ActOpen, api.ActMore, api.ActPipe:
			good = !open[d] && a.Data == ""
			open[d] = true
		case api.ActPut, api.ActFeed:
			good = open[d]
		case api.ActClose, api.ActEnd:
			good = open[d] && a.Data == ""
			delete(open, d)
		case api.ActOut:
			good = a.Name == ""
		case api.ActRun, api.ActSystem:
			good = a.Data == ""
		default:
			good = false
		}
		if !good || len(open) > api.MaxOpen || bytes > api.MaxTrace {
			t.Fatalf("act %d, with %d open and %d bytes: %v", i, len(open), bytes, a)
		}
	}
	return open
}

// checkActs holds the acts of a world against these.
func checkActs(t *testing.T, w *world.World, want ...api.Act) {
	t.Helper()
	if got := w.Acts(); !slices.Equal(got, want) {
		t.Errorf("Acts: %v instead of %v", got, want)
	}
}

// script: one with something of each kind.
func script() api.Script {
	return api.Script{
		Files: []api.File{{Name: "-", Chunks: []string{"no"}}, {Name: "f", Chunks: []string{"a", "", "b"}}, {Name: "", Chunks: []string{"no"}}, {Name: "f", Chunks: []string{"second"}}, {Name: "e"}, {Name: "\xff ", Chunks: []string{"\x00\xff"}}},
		Cmds:  []api.Cmd{{Line: "c", Chunks: []string{"1"}, Status: 1}, {Line: "d", Chunks: []string{"d", "d"}}, {Line: "c", Status: -2}, {Line: "", Chunks: []string{"none"}, Status: 256}, {Line: "c", Chunks: []string{"3", ""}, Status: 0}, {Line: "-", Status: math.MinInt}},
		Stdin: []string{"in", "", "put"},
		Env:   []api.Pair{{Name: "B", Text: "b"}, {Name: "A", Text: ""}, {Name: "B", Text: "again"}, {}},
		Clock: []int{5, -7, math.MaxInt, 0, math.MinInt},
	}
}

// P15.1: the examples of the chapter.
func TestExamples(t *testing.T) {
	w := world.New(api.Script{Files: []api.File{{Name: "f", Chunks: []string{"a", "b"}}}, Cmds: []api.Cmd{{Line: "date", Chunks: []string{"x"}, Status: 3}}, Clock: []int{5, 7}})
	if l, ok := w.Input("f"); !ok || !slices.Equal(l, []string{"a", "b"}) {
		t.Errorf("Input: %q and %v", l, ok)
	}
	if l, status := w.Run("date"); status != 3 || !slices.Equal(l, []string{"x"}) {
		t.Errorf("Run: %q and %d", l, status)
	}
	if status := w.System("date"); status != 127 {
		t.Errorf("System: %d", status)
	}
	if e, f := w.Write(api.ToMore, "g", "1"), w.Write(api.ToFile, "g", "2"); e != api.OK || f != api.OK {
		t.Errorf("Write: %d and %d", e, f)
	}
	if n, again := w.Close("g"), w.Close("g"); n != 0 || again != -1 {
		t.Errorf("Close: %d and %d", n, again)
	}
	checkActs(t, w,
		api.Act{Kind: api.ActRun, Name: "date"}, api.Act{Kind: api.ActSystem, Name: "date"},
		api.Act{Kind: api.ActMore, Name: "g"}, api.Act{Kind: api.ActPut, Name: "g", Data: "1"}, api.Act{Kind: api.ActPut, Name: "g", Data: "2"}, api.Act{Kind: api.ActClose, Name: "g"})
	for i, want := range []int{5, 7, 7, 7} {
		if got := w.Clock(); got != want {
			t.Errorf("Clock %d: %d", i, got)
		}
	}
}

// P1, R1, P15.1: a nil world.
func TestNil(t *testing.T) {
	var w *world.World
	for range 2 {
		for _, name := range []string{"", "-", "f"} {
			if l, ok := w.Input(name); len(l) != 0 || ok {
				t.Errorf("Input(%q): %q and %v", name, l, ok)
			}
			if l, status := w.Run(name); len(l) != 0 || status != 127 {
				t.Errorf("Run(%q): %q and %d", name, l, status)
			}
			if status := w.System(name); status != 127 {
				t.Errorf("System(%q): %d", name, status)
			}
			if n := w.Close(name); n != -1 {
				t.Errorf("Close(%q): %d", name, n)
			}
			for _, to := range []api.To{math.MinInt, -1, 0, 1, 2, 3, 4, 5, math.MaxInt} {
				for _, n := range []int{0, api.MaxTrace, api.MaxTrace + 1} {
					if e := w.Write(to, name, strings.Repeat("x", n)); e != api.ErrNil {
						t.Errorf("Write(%d): %d", to, e)
					}
				}
			}
		}
		w.End()
		if now := w.Clock(); now != 0 {
			t.Errorf("Clock: %d", now)
		}
		if len(w.Env()) != 0 || len(w.Acts()) != 0 {
			t.Errorf("%v and %v", w.Env(), w.Acts())
		}
	}
}

// P1, P15.1: a script without anything.
func TestEmptyScript(t *testing.T) {
	p := newPair(t, api.Script{})
	for range 2 {
		for _, name := range []string{"", "-", "f", "\x00"} {
			p.input(name)
			p.run(name)
			p.system(name)
			p.close(name)
		}
		p.clock()
		p.end()
		p.check()
	}
	if l, ok := p.w.Input("-"); len(l) != 0 || !ok {
		t.Errorf("the input that has nothing: %q and %v", l, ok)
	}
}

// P15.1: the first file of a name counts, and none whose name is that of the input; each time again, whatever is written.
func TestInput(t *testing.T) {
	w := world.New(script())
	for range 3 {
		for _, c := range []struct {
			name string
			want []string
			ok   bool
		}{
			{"", []string{"in", "", "put"}, true}, {"-", []string{"in", "", "put"}, true},
			{"f", []string{"a", "", "b"}, true}, {"e", nil, true}, {"\xff ", []string{"\x00\xff"}, true},
			{"F", nil, false}, {"f ", nil, false}, {"c", nil, false}, {"--", nil, false}, {"\xff", nil, false}, {"new", nil, false},
		} {
			if got, ok := w.Input(c.name); ok != c.ok || !slices.Equal(got, c.want) {
				t.Errorf("Input(%q): %q and %v", c.name, got, ok)
			}
			w.Write(api.ToFile, c.name, "written")
			w.Close(c.name)
		}
	}
	for _, a := range w.Acts() {
		if a.Kind != api.ActOpen && a.Kind != api.ActPut && a.Kind != api.ActClose {
			t.Fatalf("Input is an act: %v", a)
		}
	}
}

// P15.1: the calls of a line are answered one after another, whichever of both it was, and whatever comes between.
func TestCommands(t *testing.T) {
	for how := range 1 << 5 {
		p := newPair(t, script())
		for i := range 5 {
			if how>>i&1 == 0 {
				p.run("c")
			} else {
				p.system("c")
			}
			p.write(api.ToPipe, "c", "x")
			p.close("c")
			p.run([]string{"d", "", "-", "f", "c "}[i])
		}
		p.check()
	}
	w := world.New(script())
	got := []int{w.System("c"), w.System("c"), w.System("c"), w.System("c"), w.System("d"), w.System("d"), w.System(""), w.System("-"), w.System("x")}
	if want := []int{1, -2, 0, 127, 0, 127, 256, math.MinInt, 127}; !slices.Equal(got, want) {
		t.Errorf("%v instead of %v", got, want)
	}
	acts := w.Acts()
	for i, name := range []string{"c", "c", "c", "c", "d", "d", "", "-", "x"} {
		if want := (api.Act{Kind: api.ActSystem, Name: name}); acts[i] != want {
			t.Errorf("act %d: %v instead of %v", i, acts[i], want)
		}
	}
}

// P15.1: which acts tell of writing: a file is one stream however it is written to, a command of its name another.
func TestWrite(t *testing.T) {
	w := world.New(api.Script{})
	for _, c := range []struct {
		to         api.To
		name, data string
	}{
		{api.ToOut, "x", "1"}, {api.ToOut, "", ""},
		{api.ToFile, "x", "2"}, {api.ToMore, "x", "3"}, {api.ToPipe, "x", "4"}, {api.ToFile, "x", ""}, {api.ToPipe, "x", ""},
		{api.ToMore, "y", ""}, {api.ToFile, "y", "5"}, {api.ToPipe, "", "6"}, {api.ToFile, "-", "7"},
	} {
		if e := w.Write(c.to, c.name, c.data); e != api.OK {
			t.Errorf("Write(%d, %q, %q): %d", c.to, c.name, c.data, e)
		}
	}
	checkActs(t, w,
		api.Act{Kind: api.ActOut, Data: "1"}, api.Act{Kind: api.ActOut},
		api.Act{Kind: api.ActOpen, Name: "x"}, api.Act{Kind: api.ActPut, Name: "x", Data: "2"}, api.Act{Kind: api.ActPut, Name: "x", Data: "3"},
		api.Act{Kind: api.ActPipe, Name: "x"}, api.Act{Kind: api.ActFeed, Name: "x", Data: "4"},
		api.Act{Kind: api.ActPut, Name: "x"}, api.Act{Kind: api.ActFeed, Name: "x"},
		api.Act{Kind: api.ActMore, Name: "y"}, api.Act{Kind: api.ActPut, Name: "y"}, api.Act{Kind: api.ActPut, Name: "y", Data: "5"},
		api.Act{Kind: api.ActPipe}, api.Act{Kind: api.ActFeed, Data: "6"},
		api.Act{Kind: api.ActOpen, Name: "-"}, api.Act{Kind: api.ActPut, Name: "-", Data: "7"})
}

// P15.1: what was closed is opened anew, and may be opened otherwise.
func TestOpenedAnew(t *testing.T) {
	w := world.New(api.Script{})
	w.Write(api.ToMore, "x", "1")
	w.Close("x")
	w.Write(api.ToFile, "x", "2")
	w.End()
	w.Write(api.ToMore, "x", "3")
	checkActs(t, w,
		api.Act{Kind: api.ActMore, Name: "x"}, api.Act{Kind: api.ActPut, Name: "x", Data: "1"}, api.Act{Kind: api.ActClose, Name: "x"},
		api.Act{Kind: api.ActOpen, Name: "x"}, api.Act{Kind: api.ActPut, Name: "x", Data: "2"}, api.Act{Kind: api.ActClose, Name: "x"},
		api.Act{Kind: api.ActMore, Name: "x"}, api.Act{Kind: api.ActPut, Name: "x", Data: "3"})
}

// P15.1: Close and End go in the order in which things were opened, and not in that of names, of kinds, or of the last writing.
func TestOrderOfClosing(t *testing.T) {
	for _, first := range []api.To{api.ToFile, api.ToPipe} {
		second := api.ToFile + api.ToPipe - first
		p := newPair(t, api.Script{})
		p.write(first, "x", "1")
		p.write(api.ToFile, "z", "2")
		p.write(second, "x", "3")
		p.write(api.ToPipe, "a", "4")
		p.write(first, "x", "5")
		p.close("x")
		p.close("x")
		p.check()
		p.write(second, "x", "6")
		p.end()
		p.check()
		ends := []string{}
		for _, a := range p.w.Acts() {
			switch a.Kind {
			case api.ActClose:
				ends = append(ends, a.Name)
			case api.ActEnd:
				ends = append(ends, "|"+a.Name)
			}
		}
		want := []string{"x", "|x", "z", "|a", "|x"}
		if first == api.ToPipe {
			want = []string{"|x", "x", "z", "|a", "x"}
		}
		if !slices.Equal(ends, want) {
			t.Errorf("%q instead of %q", ends, want)
		}
	}
}

// P15.2: behind End nothing is open, and another End does nothing.
func TestEnd(t *testing.T) {
	for n := range api.MaxOpen + 1 {
		p := newPair(t, script())
		for i := range n {
			p.write(api.ToFile+api.To(i%3), strconv.Itoa(i/2), "x")
		}
		p.end()
		p.check()
		if open := follow(t, p.w.Acts()); len(open) != 0 {
			t.Fatalf("behind End: %v", open)
		}
		for i := range n {
			if p.w.Close(strconv.Itoa(i)) != -1 {
				t.Fatalf("%d is open behind End", i)
			}
		}
		p.end()
		p.check()
		// All places are free again.
		for i := range api.MaxOpen {
			if e := p.write(api.ToPipe, strconv.Itoa(i), ""); e != api.OK {
				t.Fatalf("Write behind End: %d", e)
			}
		}
		p.check()
	}
}

// P15.2: at most MaxOpen are open, files and commands together; what is open may still be written to.
func TestMaxOpen(t *testing.T) {
	for pipes := range api.MaxOpen + 1 {
		p := newPair(t, script())
		for i := range api.MaxOpen {
			// The first files have the names of commands that are open.
			to, name := api.ToPipe, i
			if i >= pipes {
				to, name = api.ToFile, i-pipes
			}
			if e := p.write(to, strconv.Itoa(name), "x"); e != api.OK {
				t.Fatalf("Write %d: %d", i, e)
			}
		}
		for _, to := range []api.To{api.ToFile, api.ToMore, api.ToPipe} {
			if e := p.write(to, "new", "x"); e != api.ErrMany {
				t.Fatalf("Write of %d: %d", to, e)
			}
			p.check()
			p.close("new")
			p.check()
		}
		for _, o := range p.m.openings() {
			to := api.ToMore
			if o.Kind == api.ActPipe {
				to = api.ToPipe
			}
			if e := p.write(to, o.Name, "y"); e != api.OK {
				t.Fatalf("Write of what is open: %d", e)
			}
		}
		if e := p.write(api.ToOut, "new", "x"); e != api.OK {
			t.Fatalf("Write of ToOut: %d", e)
		}
		p.run("c")
		p.close(p.m.openings()[3].Name)
		if e := p.write(api.ToPipe, "new", "x"); e != api.OK {
			t.Fatalf("Write, one being closed: %d", e)
		}
		p.check()
	}
}

// P15.2: at most MaxTrace bytes are written, wherever to; neither names nor other acts count, and closing frees none.
func TestMaxTrace(t *testing.T) {
	for _, left := range []int{0, 1, 2, 100, api.MaxTrace} {
		p := newPair(t, script())
		rest := api.MaxTrace - left
		for i, to := range []api.To{api.ToOut, api.ToFile, api.ToMore, api.ToPipe} {
			n := rest / (4 - i)
			rest -= n
			if e := p.write(to, strings.Repeat("name", 5000), strings.Repeat("x", n)); e != api.OK {
				t.Fatalf("Write: %d", e)
			}
		}
		p.run(strings.Repeat("line", 5000))
		p.end()
		for _, to := range []api.To{api.ToOut, api.ToFile, api.ToMore, api.ToPipe} {
			for _, more := range []int{1, 2, api.MaxTrace, api.MaxTrace + 1, 1 << 20} {
				if e := p.write(to, "x", strings.Repeat("x", left+more)); e != api.ErrLong {
					t.Fatalf("Write of %d more than there is room: %d", more, e)
				}
			}
		}
		p.check()
		if e := p.write(api.ToPipe, "x", strings.Repeat("x", left)); e != api.OK {
			t.Fatalf("Write of all that there is room for: %d", e)
		}
		for _, to := range []api.To{api.ToOut, api.ToFile, api.ToMore, api.ToPipe} {
			if e := p.write(to, "y", ""); e != api.OK {
				t.Fatalf("Write of nothing: %d", e)
			}
			if e := p.write(to, "y", "y"); e != api.ErrLong {
				t.Fatalf("Write of one byte more: %d", e)
			}
		}
		p.end()
		p.check()
	}
}

// R2, R5: of several errors the first in the chapter's order is answered, and nothing is changed.
func TestErrors(t *testing.T) {
	p := newPair(t, script())
	for i := range api.MaxOpen {
		p.write(api.ToFile, strconv.Itoa(i), "x")
	}
	p.write(api.ToOut, "", strings.Repeat("x", api.MaxTrace-api.MaxOpen-1))
	was := p.w.Acts()
	for _, c := range []struct {
		to         api.To
		name, data string
		want       api.Errno
	}{
		{0, "new", "xx", api.ErrRange}, {5, "new", "xx", api.ErrRange}, {-1, "0", "", api.ErrRange}, {6, "0", "x", api.ErrRange},
		{math.MaxInt, "new", "", api.ErrRange}, {math.MinInt, "", "", api.ErrRange}, {1 + 1<<32, "", "", api.ErrRange}, {2 + 1<<8, "", "", api.ErrRange},
		{api.ToOut, "", "xx", api.ErrLong}, {api.ToFile, "new", "xx", api.ErrLong}, {api.ToMore, "0", "xx", api.ErrLong}, {api.ToPipe, "0", "xx", api.ErrLong},
		{api.ToFile, "new", "x", api.ErrMany}, {api.ToMore, "new", "", api.ErrMany}, {api.ToPipe, "0", "x", api.ErrMany}, {api.ToPipe, "", "", api.ErrMany},
	} {
		if e := p.w.Write(c.to, c.name, c.data); e != c.want {
			t.Errorf("Write(%d, %q, %q): %d instead of %d", c.to, c.name, c.data, e, c.want)
		}
		checkActs(t, p.w, was...)
	}
	// The byte that was left is left still.
	if e := p.w.Write(api.ToMore, "0", "x"); e != api.OK {
		t.Errorf("Write of the last byte: %d", e)
	}
	if e := p.w.Write(api.ToMore, "0", "x"); e != api.ErrLong {
		t.Errorf("Write behind the last byte: %d", e)
	}
}

// P15.1: the times one by one, the last again and again; asking is no act.
func TestClock(t *testing.T) {
	for _, times := range [][]int{nil, {}, {0}, {7}, {-1}, {3, 2, 1}, {1, 1, 2}, {0, 5, 0}, {math.MinInt, math.MaxInt}, {api.MaxTime, api.MinTime, api.MaxTime + 1}} {
		p := newPair(t, api.Script{Clock: times})
		for range len(times) + 3 {
			p.clock()
			p.run("c")
			p.end()
		}
		p.check()
		if len(p.w.Acts()) != len(times)+3 {
			t.Errorf("%v: %v", times, p.w.Acts())
		}
	}
}

// calls: what may be done to a world, one thing each.
func calls() []func(p pair) {
	return []func(p pair){
		func(p pair) { p.write(api.ToOut, "a", "1") },
		func(p pair) { p.write(api.ToFile, "a", "2") },
		func(p pair) { p.write(api.ToMore, "a", "3") },
		func(p pair) { p.write(api.ToPipe, "a", "4") },
		func(p pair) { p.write(api.ToPipe, "c", "5") },
		func(p pair) { p.close("a") },
		func(p pair) { p.close("c") },
		func(p pair) { p.end() },
		func(p pair) { p.run("c") },
		func(p pair) { p.system("c") },
		func(p pair) { p.clock() },
	}
}

// P15.1, P15.2: all short rows of calls.
func TestShortRows(t *testing.T) {
	all := calls()
	row := make([]int, 4)
	for n := 0; n < len(all)*len(all)*len(all)*len(all); n++ {
		left := n
		for i := range row {
			row[i] = left % len(all)
			left /= len(all)
		}
		p := newPair(t, script())
		for _, i := range row {
			all[i](p)
		}
		p.check()
	}
}

// some: a string of at most so many bytes, most of them short.
func some(d *probe.Dice, most int) string {
	if d.Below(30) == 0 {
		return strings.Repeat("x", d.Below(most+1))
	}
	return d.Word(3, "xy")
}

// chance does something by chance.
func chance(d *probe.Dice, p pair) {
	names := []string{"", "-", "a", "b", "c", "d", "e", "f", "g", "h", "\xff"}
	name := probe.Pick(d, names)
	switch d.Below(12) {
	case 0:
		p.input(name)
	case 1:
		p.run(name)
	case 2:
		p.system(name)
	case 3:
		p.close(name)
	case 4:
		if d.Below(8) == 0 {
			p.end()
		}
	case 5:
		p.clock()
	case 6:
		p.write(api.To(d.Below(8)-2), name, some(d, 2*api.MaxTrace))
	default:
		p.write(api.To(2+d.Below(3)), name, some(d, api.MaxTrace/4))
	}
}

// scriptByChance: few names, so that many are the same.
func scriptByChance(d *probe.Dice) api.Script {
	texts := func() []string {
		l := make([]string, d.Below(4))
		for i := range l {
			l[i] = d.Word(3, "xyz")
		}
		return l
	}
	var s api.Script
	s.Stdin = texts()
	for range d.Below(12) {
		s.Files = append(s.Files, api.File{Name: d.Word(1, "-abcdef"), Chunks: texts()})
	}
	for range d.Below(30) {
		s.Cmds = append(s.Cmds, api.Cmd{Line: d.Word(1, "-abcdef"), Chunks: texts(), Status: d.Below(300) - 20})
	}
	for range d.Below(5) {
		s.Env = append(s.Env, api.Pair{Name: d.Word(1, "ab"), Text: d.Word(2, "ab")})
		s.Clock = append(s.Clock, d.Below(100)-50)
	}
	return s
}

// P15.1, P15.2: calls by chance, in scripts by chance.
func TestChance(t *testing.T) {
	d := probe.Dice(15)
	for range 400 {
		p := newPair(t, scriptByChance(&d))
		for range 150 {
			chance(&d, p)
			if d.Below(10) == 0 {
				p.check()
			}
		}
		p.check()
		p.end()
		p.check()
		if open := follow(t, p.w.Acts()); len(open) != 0 {
			t.Fatalf("behind End: %v", open)
		}
	}
}

// R8: worlds of one script know nothing of one another, and do the same.
func TestApart(t *testing.T) {
	s := script()
	a, b := newPair(t, s), newPair(t, s)
	if a.w == b.w {
		t.Fatal("two worlds are one")
	}
	one, other := probe.Dice(7), probe.Dice(8)
	for range 2000 {
		chance(&one, a)
		chance(&other, b)
	}
	a.check()
	b.check()
	again, c := probe.Dice(7), newPair(t, s)
	for range 2000 {
		chance(&again, c)
	}
	if !slices.Equal(a.w.Acts(), c.w.Acts()) {
		t.Error("the same calls, and other acts")
	}
}

// full: a list with spare room, in which other things stand.
func full[T any](l []T, other T) []T {
	with := append(slices.Clone(l), other, other)
	return with[:len(l)]
}

// spoil overwrites a list, its spare room too.
func spoil[T any](l []T, other T) {
	l = l[:cap(l)]
	for i := range l {
		l[i] = other
	}
}

// R3: a script that is changed behind New changes nothing; neither it nor its spare room is changed.
func TestScriptIsNotKept(t *testing.T) {
	s := script()
	s.Files, s.Cmds, s.Stdin = full(s.Files, api.File{Name: "y"}), full(s.Cmds, api.Cmd{Line: "y"}), full(s.Stdin, "y")
	s.Env, s.Clock = full(s.Env, api.Pair{Name: "y"}), full(s.Clock, 99)
	for i := range s.Files {
		s.Files[i].Chunks = full(s.Files[i].Chunks, "y")
	}
	for i := range s.Cmds {
		s.Cmds[i].Chunks = full(s.Cmds[i].Chunks, "y")
	}
	p := newPair(t, s)
	p.m.script = script()
	for i := range s.Files {
		spoil(s.Files[i].Chunks, "spoilt")
	}
	for i := range s.Cmds {
		spoil(s.Cmds[i].Chunks, "spoilt")
	}
	spoil(s.Files, api.File{Name: "f"})
	spoil(s.Cmds, api.Cmd{Line: "c"})
	spoil(s.Stdin, "spoilt")
	spoil(s.Env, api.Pair{Name: "spoilt"})
	spoil(s.Clock, 1)
	for range 8 {
		for _, name := range []string{"", "-", "f", "e", "\xff ", "y"} {
			p.input(name)
		}
		for _, line := range []string{"c", "d", "", "-", "y"} {
			p.run(line)
		}
		p.clock()
	}
	p.check()
}

// R3: no call changes the script, its spare room included.
func TestScriptIsNotChanged(t *testing.T) {
	s := script()
	s.Stdin, s.Clock, s.Cmds = full(s.Stdin, "y"), full(s.Clock, 99), full(s.Cmds, api.Cmd{Line: "y"})
	p := newPair(t, s)
	d := probe.Dice(3)
	for range 500 {
		chance(&d, p)
	}
	was := script()
	if !slices.Equal(s.Stdin, was.Stdin) || !slices.Equal(s.Clock, was.Clock) || !slices.Equal(s.Env, was.Env) {
		t.Error("the script is another")
	}
	for i, c := range was.Cmds {
		if s.Cmds[i].Line != c.Line || s.Cmds[i].Status != c.Status || !slices.Equal(s.Cmds[i].Chunks, c.Chunks) {
			t.Errorf("command %d is another", i)
		}
	}
	if s.Stdin[:cap(s.Stdin)][len(s.Stdin)] != "y" || s.Clock[:cap(s.Clock)][len(s.Clock)] != 99 || s.Cmds[:cap(s.Cmds)][len(s.Cmds)].Line != "y" {
		t.Error("the spare room is another")
	}
}

// R3: an answer that is changed, its spare room too, changes no other.
func TestAnswersAreNew(t *testing.T) {
	p := newPair(t, script())
	for range 3 {
		p.write(api.ToFile, "a", "1")
		for _, name := range []string{"", "-", "f"} {
			p.input(name)
			l, _ := p.w.Input(name)
			spoil(l, "spoilt")
			spoil(append(l, "more"), "spoilt")
			p.input(name)
		}
		l, _ := p.w.Run("c")
		p.m.run(api.ActRun, "c")
		spoil(l, "spoilt")
		p.check()
		acts := p.w.Acts()
		spoil(acts, api.Act{Name: "spoilt"})
		spoil(p.w.Env(), api.Pair{Name: "spoilt"})
		p.check()
		p.run("c")
		p.run("d")
		p.check()
	}
}

// strange: the texts of two lists, none of them empty, stand in other memory.
func strange(t *testing.T, what string, a, b []string) {
	t.Helper()
	for _, s := range a {
		for _, u := range b {
			if s != "" && u != "" && unsafe.StringData(s) == unsafe.StringData(u) {
				t.Errorf("%s: %q stands in the memory of another", what, s)
			}
		}
	}
}

// told: the texts that a world answers, but those of Run.
func told(w *world.World, names ...string) []string {
	var l []string
	for _, name := range names {
		chunks, _ := w.Input(name)
		l = append(l, chunks...)
	}
	for _, p := range w.Env() {
		l = append(l, p.Name, p.Text)
	}
	for _, a := range w.Acts() {
		l = append(l, a.Name, a.Data)
	}
	return l
}

// R3: what is kept shares no text with what was handed in, nor with what is answered.
func TestTextsAreNew(t *testing.T) {
	s := script()
	handed := slices.Clone(s.Stdin)
	for _, f := range s.Files {
		handed = append(append(handed, f.Name), f.Chunks...)
	}
	for _, c := range s.Cmds {
		handed = append(append(handed, c.Line), c.Chunks...)
	}
	for _, e := range s.Env {
		handed = append(handed, e.Name, e.Text)
	}
	name, data, line := "name", "data", "c"
	w := world.New(s)
	for _, to := range []api.To{api.ToOut, api.ToFile, api.ToMore, api.ToPipe} {
		w.Write(to, name, data)
	}
	ran, _ := w.Run(line)
	strange(t, "what is answered by Run", ran, handed)
	w.Close(name)
	handed = append(handed, name, data, line)
	strange(t, "what is answered", told(w, "", "f", "\xff "), handed)
	strange(t, "what is answered again", told(w, "", "f", "\xff "), told(w, "-", "f", "\xff "))
	// Bytes that are handed in as a text, and changed behind the call, change neither acts nor what is open.
	bytes := []byte("keyval")
	key := unsafe.String(&bytes[0], 3)
	w.Write(api.ToFile, key, unsafe.String(&bytes[3], 3))
	w.Run(key)
	copy(bytes, "xxxxxx")
	if w.Close("xxx") != -1 || w.Close("key") != 0 {
		t.Error("what is open has another name")
	}
	acts := w.Acts()
	want := []api.Act{{Kind: api.ActOpen, Name: "key"}, {Kind: api.ActPut, Name: "key", Data: "val"}, {Kind: api.ActRun, Name: "key"}, {Kind: api.ActClose, Name: "key"}}
	if got := acts[len(acts)-4:]; !slices.Equal(got, want) {
		t.Errorf("%v instead of %v", got, want)
	}
}

// R3: the names of a script, too, are kept in memory of their own.
func TestNamesAreNew(t *testing.T) {
	bytes := []byte("filedatetext")
	file, line, text := unsafe.String(&bytes[0], 4), unsafe.String(&bytes[4], 4), unsafe.String(&bytes[8], 4)
	w := world.New(api.Script{
		Files: []api.File{{Name: file, Chunks: []string{text}}},
		Cmds:  []api.Cmd{{Line: line, Chunks: []string{text}, Status: 1}, {Line: line, Chunks: []string{text}, Status: 2}},
		Stdin: []string{text},
		Env:   []api.Pair{{Name: file, Text: text}},
	})
	asked := strings.Clone(line)
	w.System(line)
	copy(bytes, "xxxxxxxxxxxx")
	for _, name := range []string{"file", ""} {
		if l, ok := w.Input(name); !ok || !slices.Equal(l, []string{"text"}) {
			t.Errorf("Input(%q): %q and %v", name, l, ok)
		}
	}
	if l, status := w.Run(asked); status != 2 || !slices.Equal(l, []string{"text"}) {
		t.Errorf("Run: %q and %d", l, status)
	}
	if env := w.Env(); !slices.Equal(env, []api.Pair{{Name: "file", Text: "text"}}) {
		t.Errorf("Env: %v", env)
	}
}

// P1, P15.1: many files, commands and acts, and long ones.
func TestMany(t *testing.T) {
	const many = 1 << 16
	var s api.Script
	long := strings.Repeat("long", 1<<16)
	for i := range many {
		s.Files = append(s.Files, api.File{Name: strconv.Itoa(i / 2), Chunks: []string{strconv.Itoa(i)}})
		s.Cmds = append(s.Cmds, api.Cmd{Line: "c", Status: i}, api.Cmd{Line: strconv.Itoa(i), Chunks: []string{"x"}, Status: -i})
		s.Clock = append(s.Clock, -i)
	}
	s.Stdin = []string{long, long}
	s.Cmds = append(s.Cmds, api.Cmd{Line: long, Chunks: []string{long}, Status: 9})
	w := world.New(s)
	for i := range many {
		name := strconv.Itoa(i)
		l, ok := w.Input(name)
		if ok != (i < many/2) || ok && l[0] != strconv.Itoa(2*i) {
			t.Fatalf("Input(%q): %q and %v", name, l, ok)
		}
		if got := w.System("c"); got != i {
			t.Fatalf("System: %d instead of %d", got, i)
		}
		if l, got := w.Run(name); got != -i || len(l) != 1 {
			t.Fatalf("Run: %q and %d instead of %d", l, got, -i)
		}
		if got := w.Clock(); got != -i {
			t.Fatalf("Clock: %d instead of %d", got, -i)
		}
		if w.Write(api.To(1+i%4), name, "") != api.OK || (i%4 != 0) != (w.Close(name) == 0) {
			t.Fatalf("Write and Close of %s", name)
		}
	}
	if l, ok := w.Input("-"); !ok || !slices.Equal(l, []string{long, long}) {
		t.Error("the long input")
	}
	if l, got := w.Run(long); got != 9 || len(l) != 1 || l[0] != long {
		t.Error("the long command")
	}
	if open := follow(t, w.Acts()); len(open) != 0 {
		t.Errorf("%v", open)
	}
	if n := len(w.Acts()); n != many*2+many/4+many*3/4*3+1 {
		t.Errorf("%d acts", n)
	}
}
