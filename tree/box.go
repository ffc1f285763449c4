package tree

import (
	"tumbler/api"
	"tumbler/pose"
)

const (
	maxPart = 1 << 30
	margin  = 64 // by which a wide box is wider, in grains
)

func wide(b api.Box) api.Box { return pose.Grown(b, margin) }

func within(b, other api.Box) bool { return pose.Join(b, other) == other }

// mayBe is whether no Min is above its Max, as such a box would not meet itself,
// and nothing is too far.
func mayBe(b api.Box) bool {
	return pose.Meet(b, b) && within(b, pose.Grown(api.Box{}, maxPart))
}

// girth is how great a box is, by its sides' sum: what it holds could be beyond an
// int.
func girth(b api.Box) int {
	return b.Max.X - b.Min.X + b.Max.Y - b.Min.Y + b.Max.Z - b.Min.Z
}

// growth is by how much a box would be greater, if it had to hold another one.
func growth(b, other api.Box) int { return girth(pose.Join(b, other)) - girth(b) }
