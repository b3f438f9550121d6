package solve

// visit is nodes that were come to, in that order.
type visit struct {
	list []int
	seen []bool // of each node whether it is in the list
}

func newVisit(n int) *visit { return &visit{seen: make([]bool, n)} }

func isNode(i, n int) bool { return i >= 0 && i < n }

// come comes to a node, and tells whether it is one that wasn't come to yet.
func (v *visit) come(i int) bool {
	if !isNode(i, len(v.seen)) || v.seen[i] {
		return false
	}
	v.seen[i] = true
	v.list = append(v.list, i)
	return true
}

// each calls a closure with each node, with those, too, that are come to meanwhile.
func (v *visit) each(do func(i int)) {
	for at := 0; at < len(v.list); at++ {
		do(v.list[at])
	}
}

// forget lets it be as if no node had been come to.
func (v *visit) forget() {
	for _, i := range v.list {
		v.seen[i] = false
	}
	v.list = v.list[:0]
}
