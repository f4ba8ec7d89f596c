package mesh

import (
	"limewash/api"
	"limewash/face"
	"limewash/scan"
)

// draft is a mesh that is being read. Its methods do what a line asks, given the words behind its first one, and throw the line's error.
type draft api.Mesh

// build gives the mesh that lines tell, or the first of them that fails, whose error is thrown out of whatever it does.
func build(lines []api.Line) (m api.Mesh, f api.Fail) {
	var d draft
	number := 0
	defer func() {
		if thrown, ok := recover().(api.Errno); ok {
			m, f = api.Mesh{}, api.Fail{Code: thrown, Line: number}
		}
	}()
	known := deeds()
	for _, line := range lines {
		number = line.No
		deed, ok := known[line.Words[0]]
		if !ok {
			panic(api.ErrWord)
		}
		deed(&d, line.Words[1:])
	}
	return api.Mesh(d), api.Fail{}
}

// deeds gives what a line does, by its first word.
func deeds() map[string]func(*draft, []string) {
	return map[string]func(*draft, []string){
		pointWord:  (*draft).addPoint,
		placeWord:  (*draft).addPlace,
		normalWord: (*draft).addNormal,
		faceWord:   (*draft).addFace,
		"o":        (*draft).pass,
		"g":        (*draft).pass,
		"s":        (*draft).pass,
		"usemtl":   (*draft).pass,
		"mtllib":   (*draft).pass,
	}
}

func (d *draft) addPoint(l []string) {
	row := decimals(l, 3, 4)
	d.V = append(d.V, api.V3{X: row[0], Y: row[1], Z: row[2]})
	limit(len(d.V), api.MaxVerts)
}

func (d *draft) addPlace(l []string) {
	row := decimals(l, 2, 3)
	d.T = append(d.T, api.V2{X: row[0], Y: row[1]})
	limit(len(d.T), api.MaxVerts)
}

func (d *draft) addNormal(l []string) {
	row := decimals(l, 3, 3)
	d.N = append(d.N, api.V3{X: row[0], Y: row[1], Z: row[2]})
	limit(len(d.N), api.MaxVerts)
}

func (d *draft) addFace(l []string) {
	fan := sure(face.Face(len(d.V), len(d.T), len(d.N), l...))
	limit(len(d.Tris)+len(fan), api.MaxTris)
	d.Tris = append(d.Tris, fan...)
}

// pass leaves the mesh as it is: names and groups tell nothing of it.
func (d *draft) pass(l []string) {}

// decimals gives the steps of l, if it has least to most texts. One that the line may have, but nobody uses, has to be a decimal all the same.
func decimals(l []string, least, most int) []int {
	if len(l) < least || len(l) > most {
		panic(api.ErrForm)
	}
	return sure(scan.Row(l...))
}

// limit throws, if many are more than most.
func limit(many, most int) {
	if many > most {
		panic(api.ErrLimit)
	}
}

// sure gives x, if there is no error; else it throws that.
func sure[T any](x T, e api.Errno) T {
	if e != api.OK {
		panic(e)
	}
	return x
}
