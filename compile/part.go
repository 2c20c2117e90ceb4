package compile

import (
	"bailiff/api"
	"bailiff/dag"
)

// part is the diagram of one part of a policy: its end number i stands for ends[i]. Each has branches and ends of its own: what others left behind would take up room.
type part[T comparable] struct {
	dag  *dag.Dag
	root int
	ends []T
}

// always is of what comes to the same, whatever is answered.
func always[T comparable](x T) part[T] {
	return part[T]{dag: empty(), root: way(0), ends: []T{x}}
}

// asking is of what comes to that which one atom is answered.
func asking(atom int) part[int] {
	p := part[int]{dag: empty(), ends: []int{no, unknown, yes}}
	p.root, _ = p.dag.Make(api.Branch{Atom: atom, To: [3]int{way(no), way(unknown), way(yes)}})
	return p
}

func empty() *dag.Dag {
	d, _ := dag.New(api.MaxDag)
	return d
}

// way is the one to that end, and end the one to which that way leads.
func way(end int) int { return -1 - end }
func end(way int) int { return -1 - way }

// atom is what is asked there: at an end one that no branch asks, further than all.
func (p part[T]) atom(way int) int {
	if b, ok := p.dag.Branch(way); ok {
		return b.Atom
	}
	return api.MaxVars
}

// on goes on by an answer to that atom; where another one is asked, or none, it stays.
func (p part[T]) on(way, atom, answer int) int {
	if b, ok := p.dag.Branch(way); ok && b.Atom == atom {
		return b.To[answer]
	}
	return way
}

// joining is what is known on the way through two diagrams at once. All that it makes is reached from the root in the end: so it is too much just if the whole is.
type joining[A, B, C comparable] struct {
	a    part[A]
	b    part[B]
	f    func(A, B) C
	out  part[C]
	ways map[[2]int]int
	ends map[C]int
}

// join is the diagram of what f makes of both.
func join[A, B, C comparable](a part[A], b part[B], f func(A, B) C) (part[C], api.Errno) {
	j := joining[A, B, C]{a: a, b: b, f: f, out: part[C]{dag: empty()}, ways: map[[2]int]int{}, ends: map[C]int{}}
	root, err := j.from(a.root, b.root)
	if err != api.OK {
		return part[C]{}, err
	}
	j.out.root = root
	return j.out, api.OK
}

// from goes on from the same two ways once, by however many answers one comes there.
func (j *joining[A, B, C]) from(a, b int) (int, api.Errno) {
	if w, ok := j.ways[[2]int{a, b}]; ok {
		return w, api.OK
	}
	w, err := j.made(a, b)
	if err == api.OK {
		j.ways[[2]int{a, b}] = w
	}
	return w, err
}

func (j *joining[A, B, C]) made(a, b int) (int, api.Errno) {
	atom := min(j.a.atom(a), j.b.atom(b))
	if atom == api.MaxVars {
		return j.to(j.f(j.a.ends[end(a)], j.b.ends[end(b)])), api.OK
	}
	branch := api.Branch{Atom: atom}
	for answer := range branch.To {
		w, err := j.from(j.a.on(a, atom, answer), j.b.on(b, atom, answer))
		if err != api.OK {
			return 0, err
		}
		branch.To[answer] = w
	}
	return j.out.dag.Make(branch)
}

// to is the way to the end that stands for x: the same for the same, else branches that lead there would be unlike.
func (j *joining[A, B, C]) to(x C) int {
	i, ok := j.ends[x]
	if !ok {
		i = len(j.out.ends)
		j.ends[x] = i
		j.out.ends = append(j.out.ends, x)
	}
	return way(i)
}
