package input

import (
	"parquet/api"
	"parquet/token"
)

// words is the list of those that are left to read, and where the text ends.
type words struct {
	list []api.Token
	end  int
}

// next takes the first word away and returns it. For a missing word it returns an empty one at the end: what asks for a word or a number then refuses that one, there.
func (w *words) next() api.Token {
	if len(w.list) == 0 {
		return api.Token{At: w.end}
	}
	first := w.list[0]
	w.list = w.list[1:]
	return first
}

// reader reads words until one is wrong; from then on it reads nothing more, and keeps the place and the error of that one.
type reader struct {
	words
	at int
	e  api.Errno
}

func (r *reader) refuse(at int, e api.Errno) {
	r.at, r.e = at, e
}

// word reads one word, which has to be the one that is wanted; the empty one is the end.
func (r *reader) word(want string) {
	if r.e != api.OK {
		return
	}
	if w := r.next(); w.Text != want {
		r.refuse(w.At, api.ErrText)
	}
}

// numbers reads a number for each of into, from least, which is 0 or -most, to most: token.Number itself holds the magnitude alone against a bound.
func (r *reader) numbers(least, most int, into ...*int) {
	for _, to := range into {
		if r.e != api.OK {
			return
		}
		w := r.next()
		n, e := token.Number(w.Text, most)
		if e == api.OK && n < least {
			e = api.ErrRange
		}
		if e != api.OK {
			r.refuse(w.At, e)
			return
		}
		*to = n
	}
}

// poly reads a whole description; what it returns counts only if no word was refused.
func (r *reader) poly() api.Poly {
	var points, loops, inner int
	r.word(keyword)
	r.numbers(0, api.MaxPoints, &points)
	r.numbers(0, api.MaxSegs, &loops, &inner)
	var p api.Poly
	p.P = r.points(points)
	p.L = r.segs(loops, points)
	p.I = r.segs(inner, points)
	r.word("")
	return p
}

func (r *reader) points(count int) []api.Point {
	var l []api.Point
	for range count {
		var p api.Point
		r.numbers(-api.MaxPlace, api.MaxPlace, &p.X, &p.Y)
		l = append(l, p)
	}
	return l
}

// segs reads segments between points of that number. If there are no points, most is below 0, and no number is one of a point.
func (r *reader) segs(count, points int) []api.Seg {
	var l []api.Seg
	for range count {
		var s api.Seg
		r.numbers(0, points-1, &s.A, &s.B)
		l = append(l, s)
	}
	return l
}
