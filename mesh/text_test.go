package mesh_test

import (
	"slices"
	"strings"
	"testing"

	"limewash/api"
	"limewash/face"
	"limewash/mesh"
	"limewash/scan"
	"limewash/word"
)

// clip tells s in no more than a line.
func clip(s string) string { return s[:min(len(s), 300)] }

// plainRead is Read as the document says it, line by line.
func plainRead(b string) (api.Mesh, api.Fail) {
	lines, e := word.Split(b)
	if e != api.OK {
		return api.Mesh{}, api.Fail{Code: e}
	}
	var m api.Mesh
	for _, line := range lines {
		if e := plainLine(&m, line.Words); e != api.OK {
			return api.Mesh{}, api.Fail{Code: e, Line: line.No}
		}
	}
	return m, api.Fail{}
}

func plainLine(m *api.Mesh, words []string) api.Errno {
	first, rest := words[0], words[1:]
	row, rowE := scan.Row(rest...)
	switch many := len(rest); first {
	case "v", "vn":
		if many != 3 && (many != 4 || first == "vn") {
			return api.ErrForm
		}
		if rowE != api.OK {
			return rowE
		}
		to := &m.V
		if first == "vn" {
			to = &m.N
		}
		*to = append(*to, api.V3{X: row[0], Y: row[1], Z: row[2]})
	case "vt":
		if many != 2 && many != 3 {
			return api.ErrForm
		}
		if rowE != api.OK {
			return rowE
		}
		m.T = append(m.T, api.V2{X: row[0], Y: row[1]})
	case "f":
		fan, e := face.Face(len(m.V), len(m.T), len(m.N), rest...)
		if e != api.OK {
			return e
		}
		m.Tris = append(m.Tris, fan...)
	case "o", "g", "s", "usemtl", "mtllib":
	default:
		return api.ErrWord
	}
	if len(m.V) > 2000 || len(m.T) > 2000 || len(m.N) > 2000 || len(m.Tris) > 500 {
		return api.ErrLimit
	}
	return api.OK
}

func checkRead(t *testing.T, b string) {
	t.Helper()
	want, wantF := plainRead(b)
	m, f := mesh.Read(b)
	if !same(m, want) || f != wantF {
		t.Fatalf("Read(%q): %+v, %+v; want %+v, %+v", clip(b), m, f, want, wantF)
	}
	checkAnswer(t, b, m, f)
}

// P8.4, T1: what is read is right, and written it is read as it was; there is a mesh or an error, never both.
func checkAnswer(t *testing.T, b string, m api.Mesh, f api.Fail) {
	t.Helper()
	if !mesh.Is(m) || f.Code != api.OK && !isEmpty(m) || f.Code == api.OK && f.Line != 0 {
		t.Fatalf("Read(%q): %+v, %+v", clip(b), m, f)
	}
	checkWrite(t, m)
}

// checkWrite writes m, which is right, and reads it again, if its text is no longer than a text may be.
func checkWrite(t *testing.T, m api.Mesh) {
	t.Helper()
	s, e := mesh.Write(m)
	if e != api.OK {
		t.Fatalf("Write(%+v): %d", m, e)
	}
	if len(s) > api.MaxText {
		return
	}
	if n, f := mesh.Read(s); !same(n, m) || f != (api.Fail{}) {
		t.Fatalf("Write(%+v): %q; read: %+v, %+v", m, clip(s), n, f)
	}
}

// checkFail reads b, which has an error.
func checkFail(t *testing.T, b string, code api.Errno, line int) {
	t.Helper()
	m, f := mesh.Read(b)
	if f != (api.Fail{Code: code, Line: line}) || !isEmpty(m) {
		t.Errorf("Read(%q): %+v, %+v; want %d at %d", clip(b), m, f, code, line)
	}
	checkRead(t, b)
}

// P8.2: what each kind of line does.
func TestRead(t *testing.T) {
	for _, x := range []struct {
		b    string
		want api.Mesh
	}{
		{"", api.Mesh{}}, {"\n \n# v 0\n", api.Mesh{}},
		{"v 0 0 0\nv 1 0 0\nv 0 1 0\nf 1 2 3", api.Mesh{V: []api.V3{{}, {X: 256}, {Y: 256}}, Tris: [][3]api.Corner{tri(0, 1, 2)}}}, // the document's
		{"v 1 -2 .5", api.Mesh{V: []api.V3{{X: 256, Y: -512, Z: 128}}}},
		{"v 1 2 3 4", api.Mesh{V: []api.V3{{X: 256, Y: 512, Z: 768}}}},
		{"v -0.001 +3. 4096", api.Mesh{V: []api.V3{{X: -1, Y: 768, Z: most}}}},
		{"vt 1 -2", api.Mesh{T: []api.V2{{X: 256, Y: -512}}}},
		{"vt 1 -2 3", api.Mesh{T: []api.V2{{X: 256, Y: -512}}}},
		{"vn 1 -2 3", api.Mesh{N: []api.V3{{X: 256, Y: -512, Z: 768}}}},
		{"vn 0 0 0\nvn -4096 0 0\n", api.Mesh{N: []api.V3{{}, {X: -most}}}},
		{"v 1 1 1\nv 1 1 1", api.Mesh{V: []api.V3{{X: 256, Y: 256, Z: 256}, {X: 256, Y: 256, Z: 256}}}},
		{"v 0 0 0\nf 1 -1 1 -1", api.Mesh{V: []api.V3{{}}, Tris: [][3]api.Corner{tri(0, 0, 0), tri(0, 0, 0)}}},
		// Lines of the others may have words, or none.
		{"o\ng\ns\nusemtl\nmtllib", api.Mesh{}},
		{"o x\ng a b c\ns off\nusemtl v 1\nmtllib x.mtl y.mtl\no o o o o o \xff", api.Mesh{}},
		// Text as chapter 6 has it.
		{"\tv  1\t2 3 \r\n", api.Mesh{V: []api.V3{{X: 256, Y: 512, Z: 768}}}},
		{"v 1 2 3 # 4 5 6", api.Mesh{V: []api.V3{{X: 256, Y: 512, Z: 768}}}},
		{"v 1 \\\n2\\\n 3", api.Mesh{V: []api.V3{{X: 256, Y: 512, Z: 768}}}},
		{"\\\nv 1 2 3\\\n", api.Mesh{V: []api.V3{{X: 256, Y: 512, Z: 768}}}},
		{"v\\\nt 1 2", api.Mesh{T: []api.V2{{X: 256, Y: 512}}}},
	} {
		if m, f := mesh.Read(x.b); !same(m, x.want) || f != (api.Fail{}) {
			t.Errorf("Read(%q): %+v, %+v", x.b, m, f)
		}
		checkRead(t, x.b)
	}
}

// P8.2: a face is of what stands ahead of it, and its numbers below 0 count from there.
func TestReadFaces(t *testing.T) {
	const b = "v 0 0 0\nv 1 0 0\nv 0 1 0\nf -3 -2 -1\nv 5 0 0\nf -3 -2 -1 1\nvt 0 0\nf 1/1 2/-1 3/1\nvn 0 0 1\nvt 1 1\nf -1//1 2//-1 1//1\nvn 0 1 0\nv 0 0 9\nf 1/-1/-1 5/2/1 -2/1/2\n"
	m, f := mesh.Read(b)
	k := func(v, p, n int) api.Corner { return api.Corner{V: v, T: p, N: n} }
	want := [][3]api.Corner{
		tri(0, 1, 2), tri(1, 2, 3), tri(1, 3, 0),
		full(k(0, 0, -1), k(1, 0, -1), k(2, 0, -1)),
		full(k(3, -1, 0), k(1, -1, 0), k(0, -1, 0)),
		full(k(0, 1, 1), k(4, 1, 0), k(3, 0, 1)),
	}
	if f != (api.Fail{}) || !slices.Equal(m.Tris, want) || len(m.V) != 5 || len(m.T) != 2 || len(m.N) != 2 {
		t.Errorf("Read: %+v, %+v", m, f)
	}
	checkRead(t, b)
	for _, behind := range []string{"v 0 0 0\n", "vt 0 0\n", "vn 0 0 0\n", "v 0 0 0\nvt 0 0\nvn 0 0 0\n"} {
		checkFail(t, "v 0 0 0\nf 1 2 1\n"+behind, api.ErrIndex, 2)
		checkFail(t, "v 0 0 0\nf 1/1 1/1 1/1\n"+behind, api.ErrIndex, 2)
		checkFail(t, "v 0 0 0\nf 1//1 1//1 1//1\n"+behind, api.ErrIndex, 2)
		checkFail(t, "v 0 0 0\nf 1 1 -2\n"+behind, api.ErrIndex, 2)
	}
}

// P8.2: other first words.
func TestReadWord(t *testing.T) {
	for _, s := range []string{"q", "V", "F", "O", "vp", "v1", "vv", "vtn", "f1", "vt1", "l", "p", "usemtl2", "mtl", "mtllib:", "0", "-", "/", `\`, `v\`, "\xff", "v\x00", "v\u00a0", "ｖ", "1", "\ufeffv"} {
		checkFail(t, s+" 1 2 3", api.ErrWord, 1)
		checkFail(t, s+" ", api.ErrWord, 1)
		checkFail(t, "v 1 2 3\n\n "+s+" x\nv 9", api.ErrWord, 3)
	}
}

// P8.2: wrong numbers of numbers, wherever they stand, ahead of what is wrong with these.
func TestReadMany(t *testing.T) {
	for first, many := range map[string][]int{"v": {0, 1, 2, 5, 6, 40}, "vt": {0, 1, 4, 5, 40}, "vn": {0, 1, 2, 4, 5, 40}, "f": {0, 1, 2}} {
		for _, n := range many {
			for _, s := range []string{" 1", " 9999", " -9999", " x", " 9999999"} {
				checkFail(t, first+strings.Repeat(s, n), api.ErrForm, 1)
				checkFail(t, "v 1 1 1\r\n#\nvt 1 1\\\n\n"+first+strings.Repeat(s, n)+"\nv 1 1 1", api.ErrForm, 5)
			}
		}
	}
}

// P8.2: numbers that are no decimals, or too far out: of several the first one.
func TestReadDecimals(t *testing.T) {
	for _, x := range []struct {
		b    string
		code api.Errno
	}{
		{"v x 0 0", api.ErrForm}, {"v 0 x 0", api.ErrForm}, {"v 0 0 x", api.ErrForm}, {"v 0 0 0 x", api.ErrForm},
		{"v 4096.00390625 0 0", api.ErrRange}, {"v 0 -4096.00001 0", api.ErrRange}, {"v 0 0 9999", api.ErrRange}, {"v 0 0 0 9999", api.ErrRange},
		{"v x 9999 0", api.ErrForm}, {"v 9999 x 0", api.ErrRange}, {"v 0 9999 x", api.ErrRange}, {"v 0 x 9999", api.ErrForm}, {"v 0 0 9999 x", api.ErrRange}, {"v 0 0 x 9999", api.ErrForm},
		{"v 1e1 0 0", api.ErrForm}, {"v 1/2 0 0", api.ErrForm}, {"v . 0 0", api.ErrForm}, {"v 0,5 0 0", api.ErrForm}, {"v 000000000000000000000 0 0", api.ErrForm}, {"v 0\\0 0 0", api.ErrForm},
		{"vt x 0", api.ErrForm}, {"vt 0 x", api.ErrForm}, {"vt 0 0 x", api.ErrForm}, {"vt 9999 0", api.ErrRange}, {"vt 0 -9999", api.ErrRange}, {"vt 0 0 9999", api.ErrRange}, {"vt x 9999", api.ErrForm}, {"vt 9999 x", api.ErrRange},
		{"vn x 0 0", api.ErrForm}, {"vn 0 x 0", api.ErrForm}, {"vn 0 0 x", api.ErrForm}, {"vn 9999 0 0", api.ErrRange}, {"vn 0 9999 0", api.ErrRange}, {"vn 0 0 -9999", api.ErrRange}, {"vn x 9999 0", api.ErrForm}, {"vn 9999 x 0", api.ErrRange},
	} {
		checkFail(t, x.b, x.code, 1)
		checkFail(t, "\n\nv 0 0 0\n"+x.b+"\nq", x.code, 4)
	}
}

// P8.2: chapter 7's errors of a face.
func TestReadFaceErrors(t *testing.T) {
	const ahead = "v 0 0 0\nv 1 0 0\nvt 0 0\nvn 0 0 0\n"
	for s, code := range map[string]api.Errno{
		"f 1 2 3": api.ErrIndex, "f 0 1 2": api.ErrIndex, "f 1 2 -3": api.ErrIndex, "f 1/2 1/1 1/1": api.ErrIndex, "f 1//1 1//2 1//1": api.ErrIndex, "f 1 2 1 3": api.ErrIndex,
		"f 1 2 x": api.ErrForm, "f 1 2 1/": api.ErrForm, "f 1 2 1.": api.ErrForm, "f 1/1 1 1": api.ErrForm, "f 1 1 1//1": api.ErrForm, "f 1 3 x": api.ErrIndex, "f 1 x 3": api.ErrForm, "f 3 x": api.ErrForm,
	} {
		checkFail(t, ahead+s, code, 5)
		checkFail(t, ahead+"\n"+s+"\nq\n", code, 6)
	}
	checkFail(t, "f 1 1 1", api.ErrIndex, 1)
	checkFail(t, "f -1 -1 -1", api.ErrIndex, 1)
}

// P8.2: the first line that fails, by the number of its first part; nothing behind it is asked.
func TestReadFirst(t *testing.T) {
	checkFail(t, "v 0 0", api.ErrForm, 1) // the document's
	checkFail(t, "o x\nq", api.ErrWord, 2)
	bad := []string{"q", "v 0 0", "v 9999 0 0", "f 1 1 1"}
	codes := []api.Errno{api.ErrWord, api.ErrForm, api.ErrRange, api.ErrIndex}
	for i, a := range bad {
		for _, b := range bad {
			checkFail(t, a+"\n"+b, codes[i], 1)
			checkFail(t, "# x\n\no x\\\n y\n\t"+a+"\n"+b+"\n", codes[i], 5)
			checkFail(t, "g\n\\\n"+a+"\n"+b, codes[i], 2)
		}
	}
}

// P8.2: as much of each as may be, and one more; the errors of that line stand ahead.
func TestReadLimit(t *testing.T) {
	for _, x := range []struct {
		line       string
		ahead, max int
		bad        map[string]api.Errno
	}{
		{"v 1 2 3\n", 0, api.MaxVerts, map[string]api.Errno{"v 1 2": api.ErrForm, "v x 2 3": api.ErrForm, "v 9999 2 3": api.ErrRange, "v 1 2 3 4": api.ErrLimit}},
		{"vt 1 2\n", 0, api.MaxVerts, map[string]api.Errno{"vt 1": api.ErrForm, "vt 1 x": api.ErrForm, "vt 1 9999": api.ErrRange, "vt 1 2 3": api.ErrLimit}},
		{"vn 1 2 3\n", 0, api.MaxVerts, map[string]api.Errno{"vn 1 2 3 4": api.ErrForm, "vn x 2 3": api.ErrForm, "vn 9999 2 3": api.ErrRange, "vn 0 0 0": api.ErrLimit}},
		{"f 1 1 1\n", 1, api.MaxTris, map[string]api.Errno{"f 1 1": api.ErrForm, "f 1 1 x": api.ErrForm, "f 1 2 1": api.ErrIndex, "f 1 1 1 1": api.ErrLimit}},
	} {
		b := strings.Repeat("v 0 0 0\n", x.ahead) + strings.Repeat(x.line, x.max)
		if m, f := mesh.Read(b); f != (api.Fail{}) || len(m.V)+len(m.T)+len(m.N)+len(m.Tris) != x.ahead+x.max {
			t.Errorf("%d of %q: %+v", x.max, x.line, f)
		}
		checkRead(t, b)
		checkFail(t, b+x.line, api.ErrLimit, x.ahead+x.max+1)
		checkFail(t, b+"\n"+x.line+x.line+"q", api.ErrLimit, x.ahead+x.max+2)
		checkFail(t, b+"q", api.ErrWord, x.ahead+x.max+1)
		for s, code := range x.bad {
			checkFail(t, b+s, code, x.ahead+x.max+1)
		}
	}
	all := strings.Repeat("v 0 0 0\n", api.MaxVerts) + strings.Repeat("vt 0 0\n", api.MaxVerts) + strings.Repeat("vn 0 0 0\n", api.MaxVerts) + strings.Repeat("f -1 1 1\n", api.MaxTris)
	if m, f := mesh.Read(all); f != (api.Fail{}) || len(m.V) != api.MaxVerts || len(m.T) != api.MaxVerts || len(m.N) != api.MaxVerts || len(m.Tris) != api.MaxTris {
		t.Errorf("all that may be: %+v", f)
	}
	checkRead(t, all)
}

// P8.2: a face of many corners makes as many triangles as may be, or too many at once.
func TestReadWideFace(t *testing.T) {
	for ahead := range 3 {
		lines := "v 0 0 0\n" + strings.Repeat("f 1 1 1\n", ahead)
		fits := lines + "f" + strings.Repeat(" 1", api.MaxTris+2-ahead)
		if m, f := mesh.Read(fits); f != (api.Fail{}) || len(m.Tris) != api.MaxTris {
			t.Errorf("behind %d: %+v, %d", ahead, f, len(m.Tris))
		}
		checkRead(t, fits)
		checkFail(t, fits+" 1", api.ErrLimit, 2+ahead)
		checkFail(t, fits+" 2 1", api.ErrIndex, 2+ahead)
		checkFail(t, fits+" 1/ 1", api.ErrForm, 2+ahead)
		checkFail(t, lines+"f"+strings.Repeat(" 1", 30000), api.ErrLimit, 2+ahead)
	}
}

// P8.2: a text that is too long has no line that fails; one as long as may be is read.
func TestReadLong(t *testing.T) {
	for _, s := range []string{"#", "\n", "q", "v 0 0 0\n", "v 0\n", "\\\n", "\xff"} {
		b := strings.Repeat(s, api.MaxText+1)
		checkFail(t, b[:api.MaxText+1], api.ErrLimit, 0)
		checkFail(t, b, api.ErrLimit, 0)
		checkRead(t, b[:api.MaxText])
	}
	b := "v 1 2 3\n" + strings.Repeat("#", api.MaxText-8)
	if m, f := mesh.Read(b); f != (api.Fail{}) || len(m.V) != 1 {
		t.Errorf("as long as may be: %+v", f)
	}
	checkFail(t, b+"#", api.ErrLimit, 0)
}

// P8.2, P8.4: many texts are held against the plain way.
func TestReadPlain(t *testing.T) {
	roll := rolls(82)
	numbers := []string{"0", "1", "-1", "2.5", "-.001", "+3.", "4096", "-4096"}
	corners := [][]string{{"1", "-1", "2"}, {"1/1", "-1/-1", "1/2"}, {"1//1", "-1//-1", "2//1"}, {"1/1/1", "-1/-1/-1", "1/2/2"}}
	firsts := []string{"v", "v", "v", "vt", "vn", "f", "f", "f", "o", "g", "s", "usemtl", "mtllib"}
	bad := []string{"x", "9999", "", "1/", "0", "3", "-3/1", "#", `\`, "q", "\\\n", "\n", "\xff"}
	read := 0
	for range 30000 {
		b := strings.Repeat("v 1 2 3\n", roll(3)) + strings.Repeat("vt 1 2\n", roll(3)) + strings.Repeat("vn 1 2 3\n", roll(3))
		for range roll(6) {
			first := firsts[roll(len(firsts))]
			many := map[string]int{"v": 3 + roll(2), "vt": 2 + roll(2), "vn": 3, "f": 3 + roll(3)}[first]
			kind := numbers
			if first == "f" {
				kind = corners[roll(len(corners))]
			}
			b += first
			for range many {
				word := kind[roll(len(kind))]
				if roll(60) == 0 {
					word = bad[roll(len(bad))]
				}
				b += " " + word
			}
			b += "\n"
		}
		checkRead(t, b)
		if _, f := mesh.Read(b); f.Code == api.OK {
			read++
		}
	}
	if read < 3000 || read > 27000 {
		t.Errorf("%d that are read try little", read)
	}
}

// P8.2: all short texts of some pieces, among them bytes that are no words.
func TestReadPieces(t *testing.T) {
	pieces := []string{"v", "t", "f", " 1", " 1 1", "\n", "\\", "o", "#", "\r", "\x00"}
	texts := []string{""}
	for i := 0; i < len(texts); i++ {
		checkRead(t, texts[i])
		checkRead(t, "v 1 1 1\n"+texts[i])
		if i >= 1+11+11*11+11*11*11 {
			continue
		}
		for _, s := range pieces {
			texts = append(texts, texts[i]+s)
		}
	}
}

// P8.3: the lines, in order, with no more than they need.
func TestWrite(t *testing.T) {
	for want, m := range map[string]api.Mesh{
		"": {},
		"v 0 1 -1.5\nv 0.00390625 -0.00390625 4096\n": {V: []api.V3{{Y: 256, Z: -384}, {X: 1, Y: -1, Z: most}}},
		"vt 0 1\nvt -4096 0.5\n":                      {T: []api.V2{{Y: 256}, {X: -most, Y: 128}}},
		"vn 0 0 1\nvn 1 2 3\n":                        {N: []api.V3{{Z: 256}, {X: 256, Y: 512, Z: 768}}},
		"v 0 0 0\nf 1 1 1\n":                          {V: []api.V3{{}}, Tris: [][3]api.Corner{tri(0, 0, 0)}},
		"v 0 0 0\nv 1 0 0\nv 1 1 0\nv 0 1 0\nvt 0 0\nvt 1 0\nvt 0 0.5\nvn 0 0 1\nvn 0 0 -1\nf 1 2 3\nf 1/1 3/3 4/2\nf 1//1 3//2 4//1\nf 4/3/2 3/3/2 2/1/1\n": square(),
	} {
		if s, e := mesh.Write(m); s != want || e != api.OK {
			t.Errorf("Write(%+v): %q, %d; want %q", m, s, e, want)
		}
		checkWrite(t, m)
	}
}

// P8.3: a mesh that has as much as it may is written, longer than a text that is read.
func TestWriteGreatest(t *testing.T) {
	m := greatest()
	s, e := mesh.Write(m)
	if lines := strings.Count(s, "\n"); e != api.OK || lines != 3*api.MaxVerts+api.MaxTris || !strings.HasSuffix(s, "\nf 1/1/1 2/1/1 2000/2000/2000\n") || !strings.HasPrefix(s, "v 0 0 0\nv 1 0 0\n") {
		t.Errorf("Write: %d lines, %d", lines, e)
	}
	if n, f := mesh.Read(s); len(s) <= api.MaxText || !isEmpty(n) || f != (api.Fail{Code: api.ErrLimit}) {
		t.Errorf("Read of %d bytes: %+v", len(s), f)
	}
	again := api.Mesh{}
	for _, line := range strings.SplitAfter(s, "\n") {
		if line == "" {
			continue
		}
		if e := plainLine(&again, strings.Fields(line)); e != api.OK {
			t.Fatalf("%q: %d", line, e)
		}
	}
	if !same(again, m) {
		t.Error("line by line it is another one")
	}
}

// P8.4: what is written is read as it was.
func TestWriteRead(t *testing.T) {
	roll := rolls(83)
	for range 3000 {
		m := rolledMesh(roll)
		checkWrite(t, m)
		n, _, _ := mesh.Clean(m)
		checkWrite(t, n)
	}
	for n := -2000; n <= 2000; n++ {
		checkWrite(t, api.Mesh{V: []api.V3{{X: n, Y: -n, Z: n * 524}}, T: []api.V2{{X: n, Y: most - n - 2000}}, N: []api.V3{{X: n}}})
	}
}
