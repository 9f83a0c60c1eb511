package world

import (
	"entrepot/api"
	"entrepot/archive"
	"entrepot/collect"
	"entrepot/compact"
	"entrepot/reader"
	"entrepot/retain"
)

// agent is one of a world's. Its life is 0 where it is down. Of what it may be, only that of its kind is there, and only where it is up; of the others the calls do nothing.
type agent struct {
	number, kind, life int

	archiver  *archive.Archiver
	compactor *compact.Compactor
	retainer  *retain.Retainer
	collector *collect.Collector
	reader    *reader.Reader
}

// caller makes one call after the other.
type caller interface {
	Next(now int) (api.Call, bool)
	Take(r api.Reply, now int) api.Errno
}

// start: it is up, in this life, without anything.
func (a *agent) start(life int, c api.Conf) {
	a.fall()
	a.life = life
	switch a.kind {
	case api.Archiver:
		a.archiver = archive.New(a.number, life, c)
	case api.Compactor:
		a.compactor = compact.New(a.number, life, c)
	case api.Retainer:
		a.retainer = retain.New(a.number, life, c)
	case api.Collector:
		a.collector = collect.New(a.number, life, c)
	case api.Reader:
		a.reader = reader.New(c)
	}
}

// fall: it is down, and all it had is gone.
func (a *agent) fall() { *a = agent{number: a.number, kind: a.kind} }

// up: is it up?
func (a *agent) up() bool { return a.life > 0 }

// has: may this happen to an agent of its kind?
func (a *agent) has(op int) bool {
	switch op {
	case api.Step, api.Crash, api.Start:
		return true
	case api.Submit, api.Flush:
		return a.kind == api.Archiver
	case api.Wish:
		return a.kind == api.Retainer
	case api.Begin:
		return a.kind == api.Collector
	case api.Ask:
		return a.kind == api.Reader
	}
	return false
}

// caller is what makes its calls.
func (a *agent) caller() caller {
	switch a.kind {
	case api.Archiver:
		return a.archiver
	case api.Compactor:
		return a.compactor
	case api.Retainer:
		return a.retainer
	case api.Collector:
		return a.collector
	}
	return a.reader
}

// idle: has it nothing to do? One that is down hasn't.
func (a *agent) idle() bool {
	return a.archiver.Waiting() == 0 && a.compactor.Idle() && a.retainer.Idle() && a.collector.Idle() && a.reader.Idle()
}
