package space

import (
	"cmp"
	"slices"
	"strings"

	"lychgate/api"
	"lychgate/atom"
)

// methods are parted by a list that rises by LESS; what is not in it has the class rest, which none in it has.
type methods struct {
	list []api.Method
	rest int
}

func readMethods(x api.Attr) (methods, bool) {
	p := methods{x.Methods, x.Rest}
	x.Methods, x.Rest = nil, 0
	if !isBare(x) {
		return methods{}, false
	}
	for i, m := range p.list {
		if !isMethod(m.Name) || m.Class == p.rest || i > 0 && less(p.list[i-1].Name, m.Name) >= 0 {
			return methods{}, false
		}
	}
	return p, true
}

// isMethod: may a test ask for it?
func isMethod(name string) bool {
	return atom.Right(api.Atom{Kind: api.CondMethod, Names: []string{name}})
}

// less is below 0, if a text is LESS than another one, and above 0, if that is.
func less(s, t string) int {
	return cmp.Or(cmp.Compare(len(s), len(t)), cmp.Compare(s, t))
}

// following is the method that stands right behind one by LESS.
func following(name string) string {
	out := []byte(name)
	for i := len(out) - 1; i >= 0; i-- {
		if out[i] < 'Z' {
			out[i]++
			return string(out)
		}
		out[i] = 'A'
	}
	return string(out) + "A"
}

// leastOther is the least method that is not in the list, and the place there ahead of which it would stand. No list that can be handed in has all methods.
func (p methods) leastOther() (string, int) {
	name := "A"
	for i, m := range p.list {
		if m.Name != name {
			return name, i
		}
		name = following(name)
	}
	return name, len(p.list)
}

func (p methods) find(name string) (int, bool) {
	return slices.BinarySearchFunc(p.list, name, func(m api.Method, name string) int { return less(m.Name, name) })
}

func (p methods) attr() api.Attr {
	x := api.Attr{Kind: api.AttrMethod, Rest: p.rest}
	for _, m := range p.list {
		x.Methods = append(x.Methods, api.Method{Name: strings.Clone(m.Name), Class: m.Class})
	}
	return x
}

func (p methods) classes() []int {
	var out []int
	for _, m := range p.list {
		out = append(out, m.Class)
	}
	_, at := p.leastOther()
	return slices.Insert(out, at, p.rest)
}

func (p methods) class(r api.Request) int {
	if i, is := p.find(r.Method); is {
		return p.list[i].Class
	}
	return p.rest
}

func (p methods) least(class int) api.Sample {
	if class == p.rest {
		name, _ := p.leastOther()
		return api.Sample{Text: name}
	}
	i := slices.IndexFunc(p.list, func(m api.Method) bool { return m.Class == class })
	return api.Sample{Text: strings.Clone(p.list[i].Name)}
}

func (p methods) passes(a api.Atom, see func(class int, pass bool)) api.Errno {
	// Of the methods that are not in the list a test asks for few, and so never for all.
	see(p.rest, false)
	for _, m := range p.list {
		see(m.Class, slices.Contains(a.Names, m.Name))
	}
	for _, name := range a.Names {
		if _, is := p.find(name); !is {
			see(p.rest, true)
		}
	}
	return api.OK
}

func (p methods) fused(to []int) parting {
	out := methods{rest: to[p.rest]}
	for _, m := range p.list {
		if to[m.Class] != out.rest {
			out.list = append(out.list, api.Method{Name: m.Name, Class: to[m.Class]})
		}
	}
	return out
}

// partedMethods are two of one class just if the same ones of some tests ask for them: so those that none asks for are the rest.
func partedMethods(tests []api.Atom) methods {
	var names []string
	for _, a := range tests {
		names = append(names, a.Names...)
	}
	slices.SortFunc(names, less)
	var p methods
	var looks [][api.MaxSets]bool
	for _, name := range slices.Compact(names) {
		p.list = append(p.list, api.Method{Name: name})
		looks = append(looks, askedBy(tests, name))
	}
	_, at := p.leastOther()
	classes := numbered(slices.Insert(looks, at, [api.MaxSets]bool{}))
	p.rest = classes[at]
	for i, class := range slices.Delete(classes, at, at+1) {
		p.list[i].Class = class
	}
	return p
}

// askedBy are the tests that ask for a method, by their places.
func askedBy(tests []api.Atom, name string) [api.MaxSets]bool {
	var out [api.MaxSets]bool
	for i, a := range tests {
		out[i] = slices.Contains(a.Names, name)
	}
	return out
}
