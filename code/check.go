package code

import (
	"thicket/api"
	"thicket/set"
)

// maxNumber of a counter, and so of what it is held against.
const maxNumber = 1000

// role of a number in an operation: what it is the number of.
type role int

const (
	unused role = iota
	operation
	group
	counter
)

// fields that an operation uses.
type fields struct {
	to, other                    role
	set, kind, least, fold, back bool
}

// fieldsByDo: those of all operations that there are.
func fieldsByDo() map[int]fields {
	return map[int]fields{
		api.OpSet:   {set: true},
		api.OpJump:  {to: operation},
		api.OpSplit: {to: operation, other: operation},
		api.OpSave:  {to: group, other: counter},
		api.OpLook:  {kind: true},
		api.OpAgain: {to: group, fold: true},
		api.OpMark:  {to: counter},
		api.OpCut:   {to: counter, back: true},
		api.OpCount: {to: counter, least: true},
		api.OpMore:  {to: counter, least: true, other: operation},
		api.OpUnder: {to: counter, least: true, other: operation},
		api.OpMoved: {to: counter, other: operation},
		api.OpBack:  {to: counter},
		api.OpFail:  {},
		api.OpMatch: {},
	}
}

func checkOps(p api.Program) api.Errno {
	byDo := fieldsByDo()
	for _, op := range p.Ops {
		f, ok := byDo[op.Do]
		if !ok {
			return api.ErrKind
		}
		if !f.areAllOf(op) {
			return api.ErrForm
		}
		if err := set.Check(op.Set); err != api.OK {
			return err
		}
		if !f.areInRange(p, op) {
			return api.ErrRange
		}
	}
	return api.OK
}

// areAllOf the fields of an operation that are not zero?
func (f fields) areAllOf(op api.Op) bool {
	return (f.to != unused || op.To == 0) && (f.other != unused || op.Other == 0) &&
		(f.set || len(op.Set) == 0) && (f.kind || op.Kind == 0) && (f.least || op.Least == 0) &&
		(f.fold || !op.Fold) && (f.back || !op.Back)
}

func (f fields) areInRange(p api.Program, op api.Op) bool {
	return f.to.has(p, op.To) && f.other.has(p, op.Other) &&
		op.Least >= 0 && op.Least <= maxNumber && (!f.kind || op.Kind >= api.NodeLineStart && op.Kind <= api.NodeNoWord)
}

// has a program such a number of what the role says?
func (r role) has(p api.Program, number int) bool {
	switch r {
	case operation:
		return number >= 0 && number < len(p.Ops)
	case group:
		return number >= 1 && number <= p.Groups
	case counter:
		return number >= 0 && number < p.Counters
	}
	return true
}

// ends tells whether nobody can come to the end of operations and go on.
func ends(ops []api.Op) bool {
	if len(ops) == 0 {
		return false
	}
	switch ops[len(ops)-1].Do {
	case api.OpJump, api.OpFail, api.OpMatch:
		return true
	}
	return false
}
