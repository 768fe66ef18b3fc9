package regex

// piece is a part of a pattern: whether it matches nothing at all, and at which places it may begin and end.
type piece struct {
	empty       bool
	first, last set
}

// rest is what is left of a pattern: the places that may come next, and whether it may end here.
type rest struct {
	next set
	done bool
}

// machine is a pattern by its places: one for each of its parts that takes a byte.
type machine struct {
	takes  []set // of each place the bytes it takes
	follow []set // of each place those that may come next
	last   set
	start  rest
}

func (m *machine) place(takes set) piece {
	var at set
	at.add(len(m.takes))
	m.takes = append(m.takes, takes)
	m.follow = append(m.follow, set{})
	return piece{first: at, last: at}
}

func (m *machine) link(from, to set) {
	from.each(func(k int) { m.follow[k] = m.follow[k].with(to) })
}

func (m *machine) chain(a, b piece) piece {
	m.link(a.last, b.first)
	both := piece{empty: a.empty && b.empty, first: a.first, last: b.last}
	if a.empty {
		both.first = both.first.with(b.first)
	}
	if b.empty {
		both.last = both.last.with(a.last)
	}
	return both
}

func (m *machine) either(a, b piece) piece {
	return piece{empty: a.empty || b.empty, first: a.first.with(b.first), last: a.last.with(b.last)}
}

func (m *machine) repeat(a piece, sign byte) piece {
	if sign != '?' {
		m.link(a.last, a.first)
	}
	if sign != '+' {
		a.empty = true
	}
	return a
}

func (m *machine) whole(a piece) {
	m.last = a.last
	m.start = rest{next: a.first, done: a.empty}
}

func (m *machine) behind(now rest, c byte) rest {
	var then rest
	now.next.each(func(k int) {
		if m.takes[k].has(int(c)) {
			then.next = then.next.with(m.follow[k])
			then.done = then.done || m.last.has(k)
		}
	})
	return then
}

type move struct {
	now rest
	c   byte
}

// remembered answers as step does, but reckons what is left but once: long texts mostly repeat their moves.
func remembered(step func(rest, byte) rest) func(rest, byte) rest {
	seen := map[move]rest{}
	return func(now rest, c byte) rest {
		then, ok := seen[move{now, c}]
		if !ok {
			then = step(now, c)
			seen[move{now, c}] = then
		}
		return then
	}
}
