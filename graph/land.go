package graph

import (
	"strings"

	"wapentake/api"
	"wapentake/change"
	"wapentake/path"
)

// Land makes a commit of the changes upon base, and moves ref to it, if that is not empty; else it tells why it makes none.
func (g *Graph) Land(base int, ref string, l []api.Change) (v api.Verdict) {
	if !g.made() {
		return api.Verdict{}
	}
	defer func() {
		if end, ok := recover().(api.Verdict); ok {
			v = end
		}
	}()
	g.mustBeRequest(base, ref, l)
	sorted := change.Sorted(l)
	g.mustBeUnchanged(base, sorted)
	c := api.Commit{Rev: g.Head() + 1, Base: base, Ref: strings.Clone(ref), Changes: sorted}
	g.add(c)
	return api.Verdict{Code: api.Landed, Rev: c.Rev}
}

// mustBeRequest ends Land of what may not be asked, whatever the paths have.
func (g *Graph) mustBeRequest(base int, ref string, l []api.Change) {
	if change.Check(l) != api.OK || ref != "" && !path.Name(ref) || base < 0 {
		panic(api.Verdict{Code: api.Bad})
	}
	if base > g.Head() {
		panic(api.Verdict{Code: api.Ahead, Rev: g.Head()})
	}
}

// mustBeUnchanged ends Land at the first of these changes whose path was changed behind base.
func (g *Graph) mustBeUnchanged(base int, l []api.Change) {
	for _, c := range l {
		// A path without a leaf was never changed: its Rev is 0.
		if leaf, _ := g.leaves.Get(c.Path); leaf.Rev > base {
			panic(api.Verdict{Code: api.Conflict, Path: leaf.Path, Rev: leaf.Rev})
		}
	}
}

// add puts c, which may be, behind the commits that there are. It keeps c's changes.
func (g *Graph) add(c api.Commit) {
	g.commits = append(g.commits, c)
	for _, x := range c.Changes {
		g.leaves = g.leaves.Put(api.Leaf{Path: x.Path, Digest: x.Digest, Rev: c.Rev, Gone: x.Gone})
	}
	if c.Ref != "" {
		g.refs[c.Ref] = c.Rev
	}
}

// landsAs lands what c says, and tells whether c is just the commit that came of it.
func (g *Graph) landsAs(c api.Commit) bool {
	v := g.Land(c.Base, c.Ref, c.Changes)
	// Base and Ref stand in the commit as Land was given them; the others need not.
	return v.Code == api.Landed && v.Rev == c.Rev && change.Same(g.commits[v.Rev-1].Changes, c.Changes)
}
