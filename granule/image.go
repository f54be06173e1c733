package granule

import "granule/api"

const magic = "GR"

// scanner reads an image byte by byte.
type scanner struct {
	image  string
	at     int
	failed bool // a byte was wanted that is not there, or the letters at the head are others
}

// next is 0 behind the end, so that reading on is harmless and one look at failed is enough.
func (s *scanner) next() int {
	if s.at >= len(s.image) {
		s.failed = true
		return 0
	}
	b := s.image[s.at]
	s.at++
	return int(b)
}

// program reads what may be no valid program; a count is a byte, so no image makes this long.
func (s *scanner) program() api.Program {
	var p api.Program
	s.head()
	p.Conf = s.conf()
	p.Data = s.data()
	p.Code = s.code()
	return p
}

func (s *scanner) head() {
	for i := 0; i < len(magic); i++ {
		b := s.next()
		if b != int(magic[i]) {
			s.failed = true
		}
	}
}

func (s *scanner) conf() api.Conf {
	var c api.Conf
	c.Static = s.next()
	c.Rest = s.next()
	for n := s.next(); n > 0; n-- {
		var k api.Class
		k.Granules = s.next()
		k.Slots = s.next()
		c.Classes = append(c.Classes, k)
	}
	return c
}

// data copies, so that the program does not hold on to the image.
func (s *scanner) data() string {
	var list []byte
	for n := s.next(); n > 0; n-- {
		b := s.next()
		list = append(list, byte(b))
	}
	return string(list)
}

func (s *scanner) code() []api.Instr {
	var list []api.Instr
	for n := s.next(); n > 0; n-- {
		var x api.Instr
		x.Op = s.next()
		x.A = s.next()
		x.B = s.next()
		x.C = s.next()
		list = append(list, x)
	}
	return list
}

// imageOf makes the image of a valid program, in which every number is a byte.
func imageOf(p api.Program) string {
	list := []byte(magic)
	list = append(list, byte(p.Conf.Static), byte(p.Conf.Rest), byte(len(p.Conf.Classes)))
	for i := 0; i < len(p.Conf.Classes); i++ {
		k := p.Conf.Classes[i]
		list = append(list, byte(k.Granules), byte(k.Slots))
	}
	list = append(list, byte(len(p.Data)))
	for i := 0; i < len(p.Data); i++ {
		list = append(list, p.Data[i])
	}
	list = append(list, byte(len(p.Code)))
	for i := 0; i < len(p.Code); i++ {
		x := p.Code[i]
		list = append(list, byte(x.Op), byte(x.A), byte(x.B), byte(x.C))
	}
	return string(list)
}
