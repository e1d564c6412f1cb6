package request

import (
	"cmp"
	"slices"
	"strconv"
	"strings"

	"lychgate/addr"
	"lychgate/api"
)

// upTo is what stands ahead of the first mark, and what behind it.
func upTo(s, mark string) (ahead, behind string) {
	ahead, behind, is := strings.Cut(s, mark)
	must(is)
	return ahead, behind
}

// readRequest is the one form of a request's text.
func readRequest(s string) api.Request {
	line, rest := upTo(s, "\n")
	r := readFirst(line)
	r.Headers = joined(readFields(rest))
	return r
}

// readFirst reads the first line.
func readFirst(line string) api.Request {
	method, rest := upTo(line, " ")
	path, from := upTo(rest, " ")
	mustBeMethod(method)
	host, at := upTo(from, ":")
	n, e := addr.Parse(host)
	must(e == api.OK)
	// A piece of the text would keep all of it in memory.
	return api.Request{Method: strings.Clone(method), Path: onePath(path), Addr: n, Port: port(at)}
}

// readFields reads the headers' lines, to the empty one, behind which nothing may stand.
func readFields(s string) []api.Field {
	var fields []api.Field
	for {
		line, rest := upTo(s, "\n")
		if line == "" {
			must(rest == "")
			return fields
		}
		must(len(fields) < api.MaxFields)
		name, value := upTo(line, ":")
		fields = append(fields, api.Field{Name: oneName(name), Value: oneValue(value)})
		s = rest
	}
}

// joined are headers by their rising names, each name once, its values one behind the other.
func joined(lines []api.Field) []api.Field {
	slices.SortStableFunc(lines, func(a, b api.Field) int { return cmp.Compare(a.Name, b.Name) })
	var out []api.Field
	for len(lines) > 0 {
		name := lines[0].Name
		var values []string
		for len(lines) > 0 && lines[0].Name == name {
			values = append(values, lines[0].Value)
			lines = lines[1:]
		}
		out = append(out, api.Field{Name: strings.Clone(name), Value: strings.Clone(strings.Join(values, ","))})
	}
	return out
}

// written is the text of a right request.
func written(r api.Request) string {
	host, _ := addr.Print(r.Addr)
	var b strings.Builder
	b.WriteString(r.Method + " " + r.Path + " " + host + ":" + strconv.Itoa(r.Port) + "\n")
	for _, f := range r.Headers {
		b.WriteString(f.Name + ":" + f.Value + "\n")
	}
	b.WriteString("\n")
	return b.String()
}
