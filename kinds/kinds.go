// Package kinds has names of what several layers tell apart by the same numbers: asks, acts, and papers.
package kinds

// The kinds of asks.
const (
	Open = iota
	Get
	Iterate
	Prove
	ProveRange
	Subscribe
	Unsubscribe
	Repin
	Renew
	Release
)

// The kinds of acts.
const (
	SendAsk = iota
	Commit
	Pick
	Deliver
	Drop
	Double
	Tick
	SendText
)

// The kinds of papers.
const (
	OfKey = iota
	OfRange
)
