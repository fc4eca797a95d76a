package shown

import "portiere/api"

// IsSlot and MayShow say no of noughts, too: a number that stands for no node needs no question of its own.
func IsSlot(n api.Node) bool { return n.Kind == api.Element && n.Name == "slot" }

// MayShow says whether a node may stand in a slot.
func MayShow(n api.Node) bool { return n.Kind == api.Element || n.Kind == api.Text }

// Value is an attribute's, empty where there is none of that name.
func Value(n api.Node, name string) string {
	for _, a := range n.Attrs {
		if a.Name == name {
			return a.Value
		}
	}
	return ""
}
