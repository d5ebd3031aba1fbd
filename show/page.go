package show

import (
	"strconv"

	"athanor/api"
)

// page is a text that is being written. Once it is longer than a text may be, no more is written, so that what is far too long is soon left.
type page struct {
	bytes []byte
}

// part is an expression, a pattern or a type: it has a text, and parts of its own.
type part interface {
	text(p *page)
	parts() int
	part(i int) part
}

func (p *page) full() bool {
	return len(p.bytes) > api.MaxSource
}

func (p *page) put(words ...string) {
	for _, w := range words {
		if !p.full() {
			p.bytes = append(p.bytes, w...)
		}
	}
}

// number writes digits, with the sign that stands in programs ahead of what is below nought.
func (p *page) number(n int) {
	if n < 0 {
		p.put("~")
		n = -n
	}
	p.put(strconv.Itoa(n))
}

// row writes one thing behind the other, with a text between two.
func (p *page) row(between string, things ...func(*page)) {
	for i, write := range things {
		if p.full() {
			return
		}
		if i > 0 {
			p.put(between)
		}
		write(p)
	}
}

// brackets writes a thing between ( and ).
func (p *page) brackets(write func(*page)) {
	p.put("(")
	write(p)
	p.put(")")
}

// atom writes a part so that others may stand beside it: whatever its kind, it is one word just if it has no parts.
func (p *page) atom(x part) {
	if x.parts() == 0 {
		x.text(p)
		return
	}
	p.brackets(x.text)
}

// named writes a name, and behind it a thing's parts as atoms.
func (p *page) named(name string, x part) {
	p.put(name)
	for i := 0; i < x.parts() && !p.full(); i++ {
		p.put(" ")
		p.atom(x.part(i))
	}
}
