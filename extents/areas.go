package extents

import (
	"furrow/api"
	"furrow/layout"
)

func goodShape(s api.Shape) bool {
	right, e := layout.Fit(api.Super{Pages: s.Pages, Inodes: s.Inodes, Cores: s.Cores})
	return e == api.OK && s == right
}

// goodSpans: whether they lie in the data area, each behind the one before it. What is left behind From is reckoned, not the span's end, which could wrap.
func goodSpans(s api.Shape, spans []api.Span) bool {
	next := s.Data
	for _, a := range spans {
		if a.From < next || a.Count < 1 || a.Count > s.Pages-a.From {
			return false
		}
		next = a.From + a.Count
	}
	return true
}

func (p *Pool) isCore(core int) bool { return 0 <= core && core < p.shape.Cores }

// border: the first page of a core's area; of the number behind the last core the page behind the data area.
func (p *Pool) border(core int) int {
	return p.shape.Data + core*(p.shape.Pages-p.shape.Data)/p.shape.Cores
}

// takeRound: takes n pages, going round the cores from this one on; as many are free.
func (p *Pool) takeRound(core, n int) []api.Span {
	var list []api.Span
	for turn := range p.shape.Cores {
		area := p.Area((core + turn) % p.shape.Cores)
		for i := range area.Count {
			if n == 0 {
				return list
			}
			if page := area.From + i; p.unset(page) {
				list = withPage(list, page)
				n--
			}
		}
	}
	return list
}
