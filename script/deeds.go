package script

import (
	"quash/api"
	"quash/bank"
	"quash/deque"
	"quash/dict"
	"quash/set"
)

// structure is how deeds are done to one: the program of each, and by their words what kinds there are.
type structure struct {
	code  func(base, n int, d api.Deed) ([]api.Instr, api.Errno)
	kinds map[string]kind
}

// kind is one kind of deed: its Op, and a letter for the field that each number behind its word is.
type kind struct {
	op     int
	fields string
}

// structures has them by their words.
func structures() map[string]structure {
	return map[string]structure{
		"bank": {bank.Code, map[string]kind{
			"pay":  {api.BankPay, "AX"},
			"take": {api.BankTake, "AX"},
			"move": {api.BankMove, "ABX"},
			"see":  {api.BankSee, "A"},
			"sum":  {api.BankSum, ""},
		}},
		"set": {set.Code, map[string]kind{
			"put":   {api.SetPut, "X"},
			"drop":  {api.SetDrop, "X"},
			"has":   {api.SetHas, "X"},
			"least": {api.SetLeast, ""},
			"size":  {api.SetSize, ""},
		}},
		"dict": {dict.Code, map[string]kind{
			"put":  {api.DictPut, "XY"},
			"get":  {api.DictGet, "X"},
			"drop": {api.DictDrop, "X"},
			"add":  {api.DictAdd, "XY"},
			"size": {api.DictSize, ""},
		}},
		"deque": {deque.Code, map[string]kind{
			"push":  {api.DequePush, "X"},
			"shove": {api.DequeShove, "X"},
			"pop":   {api.DequePop, ""},
			"shift": {api.DequeShift, ""},
			"size":  {api.DequeSize, ""},
		}},
	}
}

// deed reads a line of that number with these fields, the first of which says that it is a deed.
func (r *reader) deed(line int, fields []string) []api.Instr {
	const ahead = 5 // do, the structure, its base, its size and the word stand ahead of the numbers
	if len(fields) < ahead {
		giveUp(line, api.ErrScriptLine)
	}
	s := r.structures[fields[1]]
	k, known := s.kinds[fields[4]]
	if !known || len(fields) != ahead+len(k.fields) {
		giveUp(line, api.ErrScriptLine)
	}
	where := numbersOf(line, fields[2:4])
	l, e := s.code(where[0], where[1], k.deed(numbersOf(line, fields[ahead:])))
	if e != api.OK {
		giveUp(line, e)
	}
	return l
}

// deed is one of this kind with those numbers, one for each field.
func (k kind) deed(numbers []int) api.Deed {
	d := api.Deed{Op: k.op}
	for i, n := range numbers {
		switch k.fields[i] {
		case 'A':
			d.A = n
		case 'B':
			d.B = n
		case 'X':
			d.X = int64(n)
		case 'Y':
			d.Y = int64(n)
		}
	}
	return d
}
