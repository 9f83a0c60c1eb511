// Package pace: one call after the other, and when one that failed may be made again.
package pace

import "entrepot/api"

// Pace knows whether a reply is waited for, how often calls failed, and from which tick on the next one may be made. Its zero value waits for nothing.
type Pace struct {
	tries, wait int
	failures    int
	ready       int
	told        bool
}

// Fits: may there be so many tries, and such a wait?
func Fits(tries, wait int) bool {
	return tries >= 1 && tries <= api.MaxTries && wait >= 0 && wait <= api.MaxNum
}

// New: a pace at which nothing failed yet.
func New(tries, wait int) Pace { return Pace{tries: tries, wait: wait} }

// Tell: may a call be told at this tick? Then its reply is waited for.
func (p *Pace) Tell(now int) bool {
	if p.told || now < p.ready {
		return false
	}
	p.told = true
	return true
}

// Taken: was a reply waited for? Then it is there now.
func (p *Pace) Taken() bool {
	told := p.told
	p.told = false
	return told
}

// Fail counts a failure, whose reply came at this tick; may there be another try?
func (p *Pace) Fail(now int) bool {
	p.failures++
	if p.failures >= p.tries {
		return false
	}
	p.ready = now + p.wait<<(p.failures-1)
	return true
}

// Passes: is it an error that may pass?
func Passes(e api.Errno) bool { return e == api.ErrNet || e == api.ErrFull }
