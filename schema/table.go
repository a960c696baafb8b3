package schema

import "surety/api"

// row is an attribute, and the type of resources that has it.
type row struct {
	of string
	api.Attr
}

// rows are all attributes: what is answered in the order of names is taken from here as it stands.
var rows = [19]row{
	{"disk", api.Attr{Name: "id", T: api.Type{Kind: api.Str}, Computed: true}},
	{"disk", api.Attr{Name: "kind", T: api.Type{Kind: api.Str}, Anew: true}},
	{"disk", api.Attr{Name: "label", T: api.Type{Kind: api.Str}}},
	{"disk", api.Attr{Name: "serial", T: api.Type{Kind: api.Int}, Computed: true}},
	{"disk", api.Attr{Name: "size", T: api.Type{Kind: api.Int}, Need: true}},
	{"node", api.Attr{Name: "addr", T: api.Type{Kind: api.Str}, Computed: true}},
	{"node", api.Attr{Name: "disk", T: api.Type{Kind: api.Str}}},
	{"node", api.Attr{Name: "id", T: api.Type{Kind: api.Str}, Computed: true}},
	{"node", api.Attr{Name: "image", T: api.Type{Kind: api.Str}, Need: true, Anew: true}},
	{"node", api.Attr{Name: "ports", T: api.Type{Kind: api.List, Of: api.Int}}},
	{"node", api.Attr{Name: "secret", T: api.Type{Kind: api.Str}, Own: true}},
	{"node", api.Attr{Name: "tags", T: api.Type{Kind: api.Map, Of: api.Str}}},
	{"note", api.Attr{Name: "id", T: api.Type{Kind: api.Str}, Computed: true}},
	{"note", api.Attr{Name: "meta", T: api.Type{Kind: api.Map}}},
	{"note", api.Attr{Name: "text", T: api.Type{Kind: api.Str}}},
	{"rule", api.Attr{Name: "allow", T: api.Type{Kind: api.List, Of: api.Str}}},
	{"rule", api.Attr{Name: "from", T: api.Type{Kind: api.Str}, Need: true}},
	{"rule", api.Attr{Name: "id", T: api.Type{Kind: api.Str}, Computed: true}},
	{"rule", api.Attr{Name: "to", T: api.Type{Kind: api.Str}}},
}

// place is where an attribute is found.
type place struct{ of, name string }

func byPlace() map[place]api.Attr {
	m := make(map[place]api.Attr, len(rows))
	for _, r := range rows {
		m[place{r.of, r.Name}] = r.Attr
	}
	return m
}
