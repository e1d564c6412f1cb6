package space

import (
	"slices"
	"strings"

	"lychgate/api"
)

const (
	fixedAttrs = 4              // the attributes ahead of the headers
	mostAttrs  = fixedAttrs + 8 // with as many headers as there may be
)

// parting is a right attribute, as that which parts members into classes.
type parting interface {
	// attr is the attribute, but for its Size; its lists may be the parting's own.
	attr() api.Attr
	// classes are those of some members that rise, the least one of each class among them.
	classes() []int
	// class is that of a right request's member.
	class(r api.Request) int
	// least is the least member of a class.
	least(class int) api.Sample
	// passes shows which classes have members that pass a right test of that attribute, and which have members that do not.
	passes(a api.Atom, see func(class int, pass bool)) api.Errno
	// fused has the class to[i] in the place of i.
	fused(to []int) parting
}

// made is the attribute of a parting that was not read, and so has none of what was handed in.
func made(p parting) (api.Attr, api.Errno) {
	size := slices.Max(p.classes()) + 1
	if size > api.MaxClasses {
		return api.Attr{}, api.ErrNodeLimit
	}
	x := p.attr()
	x.Size = size
	return x, api.OK
}

// read is the parting of an attribute; false, if that is not right.
func read(x api.Attr) (parting, bool) {
	// A size that may not be is refused first, since lists are made of that size.
	if x.Size < 1 || x.Size > api.MaxClasses {
		return nil, false
	}
	p, is := readKind(x)
	if !is || !inOrder(p.classes(), x.Size) {
		return nil, false
	}
	return p, true
}

// readKind is the parting of an attribute whose classes may still be numbered wrong.
func readKind(x api.Attr) (parting, bool) {
	switch x.Kind {
	case api.AttrAddr:
		return readAddrs(x)
	case api.AttrPort:
		return readPorts(x)
	case api.AttrMethod:
		return readMethods(x)
	case api.AttrPath:
		return readPaths(x)
	case api.AttrHeader:
		return readHeaders(x)
	}
	return nil, false
}

// isBare: has an attribute nothing that only some kinds have?
func isBare(x api.Attr) bool {
	return x.Name == "" && x.Rest == 0 && len(x.Rows) == 0 && len(x.Cuts) == 0 && len(x.Methods) == 0 &&
		x.Auto.Bytes == "" && len(x.Auto.Next) == 0 && len(x.Auto.Out) == 0
}

// inOrder: do just the classes 0 to size - 1 occur, each for the first time behind those with smaller numbers?
func inOrder(classes []int, size int) bool {
	met := 0
	for _, class := range classes {
		if class < 0 || class > met {
			return false
		}
		if class == met {
			met++
		}
	}
	return met == size
}

// readAll are the partings of a space; false, if that is not right.
func readAll(x []api.Attr) ([]parting, bool) {
	if len(x) < fixedAttrs || len(x) > mostAttrs {
		return nil, false
	}
	var out []parting
	for i, y := range x {
		p, is := read(y)
		// The kinds are numbered in the order of a space.
		if !is || y.Kind != min(api.AttrAddr+i, api.AttrHeader) {
			return nil, false
		}
		if i > fixedAttrs && x[i-1].Name >= y.Name {
			return nil, false
		}
		out = append(out, p)
	}
	return out, true
}

// asks: does a test ask an attribute?
func asks(a api.Atom, x api.Attr) bool {
	switch a.Kind {
	case api.CondAddr:
		return x.Kind == api.AttrAddr
	case api.CondPort:
		return x.Kind == api.AttrPort
	case api.CondMethod:
		return x.Kind == api.AttrMethod
	case api.CondPath:
		return x.Kind == api.AttrPath
	case api.CondHeader, api.CondHas:
		return x.Kind == api.AttrHeader && x.Name == a.Name
	}
	return false
}

func hasClass(x api.Attr, class int) bool { return 0 <= class && class < x.Size }

// areLeast: does each place have its own number, or a lower one that has its own?
func areLeast(classes []int) bool {
	for i, class := range classes {
		if class < 0 || class > i || classes[class] != class {
			return false
		}
	}
	return true
}

// put gives a request a member of an attribute.
func put(r *api.Request, x api.Attr, s api.Sample) {
	switch x.Kind {
	case api.AttrAddr:
		r.Addr = s.Number
	case api.AttrPort:
		r.Port = s.Number
	case api.AttrMethod:
		r.Method = s.Text
	case api.AttrPath:
		r.Path = s.Text
	case api.AttrHeader:
		if !s.None {
			r.Headers = append(r.Headers, api.Field{Name: strings.Clone(x.Name), Value: s.Text})
		}
	}
}

// numbered gives each of some looks the number of those that first occur ahead of it.
func numbered[L comparable](looks []L) []int {
	known := map[L]int{}
	out := make([]int, len(looks))
	for i, look := range looks {
		n, met := known[look]
		if !met {
			n = len(known)
			known[look] = n
		}
		out[i] = n
	}
	return out
}
