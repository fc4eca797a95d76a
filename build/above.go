package build

import "portiere/api"

// above is the step that stands last at each depth. An array is enough: no item of a sound list is as deep as the list may be long.
type above struct {
	last [api.MaxItems]int
}

// over are the steps in which an item so deep stands, the outermost first. They are cut behind, too: what stands deeper belongs to what is over already.
func (a *above) over(deep int) []int { return a.last[:deep:deep] }

// parent is the innermost of them.
func (a *above) parent(deep int) int {
	if deep == 0 {
		return none
	}
	return a.over(deep)[deep-1]
}

func (a *above) enter(deep, step int) { a.last[deep] = step }
