package entry

import (
	"slices"

	"wapentake/api"
)

// Same tells whether two requests have the same in each field, those too that their Kind does not name.
func Same(a, b api.Request) bool {
	return a.Kind == b.Kind && a.Name == b.Name &&
		a.Session == b.Session && a.Seq == b.Seq &&
		a.Base == b.Base && a.Ref == b.Ref && slices.Equal(a.Changes, b.Changes) &&
		a.Path == b.Path && a.From == b.From && a.Many == b.Many && a.Member == b.Member
}

// Alike tells whether two verdicts have the same in each field, those too that their Code does not name.
func Alike(a, b api.Verdict) bool {
	return a.Code == b.Code && a.Session == b.Session && a.Rev == b.Rev &&
		a.Path == b.Path && a.Digest == b.Digest && a.Member == b.Member &&
		slices.EqualFunc(a.Commits, b.Commits, sameCommit)
}

// sameCommit tells whether two commits have the same in each field.
func sameCommit(a, b api.Commit) bool {
	return a.Rev == b.Rev && a.Base == b.Base && a.Ref == b.Ref && slices.Equal(a.Changes, b.Changes)
}
