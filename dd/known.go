package dd

// These tell what an operation knows of two refs without a look at their kids. Where it knows nothing, one at least is a node.

func knownAnd(p pair) (int, bool) {
	switch {
	case p.f == no || p.g == no:
		return no, true
	case p.f == yes:
		return p.g, true
	case p.g == yes || p.f == p.g:
		return p.f, true
	}
	return no, false
}

func knownOr(p pair) (int, bool) {
	switch {
	case p.f == yes || p.g == yes:
		return yes, true
	case p.f == no:
		return p.g, true
	case p.g == no || p.f == p.g:
		return p.f, true
	}
	return no, false
}

func knownXor(p pair) (int, bool) {
	switch {
	case p.f == p.g:
		return no, true
	case p.f == no:
		return p.g, true
	case p.g == no:
		return p.f, true
	}
	return no, false
}
