package epoch

// Quorum is how many of the members are enough, so that any two such lots of them have one in common.
func Quorum(members []int) int { return len(members)/2 + 1 }

// Most tells whether enough of the members are among ids.
func Most(members, ids []int) bool {
	left := map[int]struct{}{}
	for _, m := range members {
		left[m] = struct{}{}
	}
	need := Quorum(members)
	for _, id := range ids {
		if _, ok := left[id]; ok {
			// One that was counted is taken out, so that it counts once.
			delete(left, id)
			need--
		}
	}
	return need <= 0
}
