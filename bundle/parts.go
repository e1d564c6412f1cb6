package bundle

import "lychgate/api"

// part is how a part of a thing is laid down, and how it is taken up: side by side, so that what is read goes through the same parts as what is written.
type part[T any] struct {
	lay  func(l laying, x T)
	take func(t taking, x *T)
}

// imageParts are those of an image, between the head and the check.
func imageParts() []part[api.Image] {
	return []part[api.Image]{
		{laying.space, taking.space},
		{laying.order, taking.order},
		{laying.nodes, taking.nodes},
		{laying.root, taking.root},
	}
}

// attrParts are those that an attribute of a kind has behind its Kind and Size; none, if there is no such kind.
func attrParts(kind int) []part[api.Attr] {
	name := part[api.Attr]{laying.name, taking.name}
	rest := part[api.Attr]{laying.rest, taking.rest}
	auto := part[api.Attr]{laying.auto, taking.auto}
	return map[int][]part[api.Attr]{
		api.AttrAddr:   {{laying.rows, taking.rows}},
		api.AttrPort:   {{laying.cuts, taking.cuts}},
		api.AttrMethod: {rest, {laying.methods, taking.methods}},
		api.AttrPath:   {auto},
		api.AttrHeader: {name, rest, auto},
	}[kind]
}
