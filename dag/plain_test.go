package dag_test

import "bailiff/api"

// plain is a diagram by the promises' words, with maps, and by calls of itself where one goes on.
type plain struct {
	most    int
	of      map[int]api.Branch
	numbers map[api.Branch]int
}

func newPlain(most int) *plain {
	return &plain{most, map[int]api.Branch{}, map[api.Branch]int{}}
}

func (p *plain) wrong(b api.Branch) bool {
	wrong := b.Atom < 0 || b.Atom > 63
	for _, way := range b.To {
		to, there := p.of[way]
		switch {
		case way < -1048576:
			wrong = true
		case way > -1:
			wrong = wrong || !there || to.Atom <= b.Atom
		}
	}
	return wrong
}

func (p *plain) make(b api.Branch) (int, api.Errno) {
	if p.wrong(b) {
		return 0, api.ErrArg
	}
	if b.To == [3]int{b.To[2], b.To[2], b.To[2]} {
		return b.To[2], api.OK
	}
	if i, there := p.numbers[b]; there {
		return i, api.OK
	}
	n := len(p.of)
	if n >= p.most {
		return 0, api.ErrLimit
	}
	p.of[n], p.numbers[b] = b, n
	return n, api.OK
}

func (p *plain) walk(root int, answers []int) int {
	b, there := p.of[root]
	switch {
	case root <= -1:
		return -(root + 1)
	case !there:
		return -1
	}
	if b.Atom < len(answers) {
		switch answers[b.Atom] {
		case 0:
			return p.walk(b.To[0], answers)
		case 2:
			return p.walk(b.To[2], answers)
		}
	}
	return p.walk(b.To[1], answers)
}

func (p *plain) size(root int) int {
	met := map[int]bool{}
	var goOn func(way int)
	goOn = func(way int) {
		if b, there := p.of[way]; there && !met[way] {
			met[way] = true
			for _, next := range b.To {
				goOn(next)
			}
		}
	}
	goOn(root)
	return len(met)
}

// maker makes branches and answers, the same each time.
type maker struct{ x uint64 }

func (m *maker) n(below int) int {
	m.x = m.x*6364136223846793005 + 1442695040888963407
	return int(m.x >> 33 % uint64(below))
}

func pick[T any](m *maker, l []T) T { return l[m.n(len(l))] }

// way is one that a branch of that Atom may have, or mostly so: what there is is counted by n, and how many ends there are by ends.
func (m *maker) way(p *plain, atom, ends int) int {
	for range 4 {
		if n := len(p.of); n > 0 && m.n(3) > 0 {
			if i := m.n(n); p.of[i].Atom > atom {
				return i
			}
		}
	}
	return end(m.n(ends))
}

func (m *maker) branch(p *plain, atoms, ends int) api.Branch {
	b := api.Branch{Atom: m.n(atoms)}
	for i := range b.To {
		b.To[i] = m.way(p, b.Atom, ends)
	}
	return b
}

// odd has in one place what mostly isn't right.
func (m *maker) odd(p *plain, b api.Branch) api.Branch {
	n := len(p.of)
	if m.n(4) == 0 {
		b.Atom = pick(m, []int{-1, 64, 63, 65, least, most, 1 << 32, -1 << 32, b.Atom + 1<<32, b.Atom - 1<<32})
		return b
	}
	b.To[m.n(3)] = pick(m, []int{n, n - 1, n + 1, m.n(n + 1), least, most, furthest, furthest - 1, 1 << 32, 1<<32 + m.n(n+1), -1 << 32, -1<<32 - 1, maxDag, maxDag - 1})
	return b
}

// answers are mostly 0 to 2, and mostly about as many as there are atoms.
func (m *maker) answers(atoms int) []int {
	l := make([]int, m.n(atoms+3))
	for i := range l {
		l[i] = m.n(3)
		if m.n(12) == 0 {
			l[i] = pick(m, []int{-1, 3, 4, least, most, 1 << 32, 1<<32 + 2, -1 << 32, -2, 256, 258})
		}
	}
	return l
}
