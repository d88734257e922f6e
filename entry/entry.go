// Package entry writes and reads entries of the log, as messages and records hold them: a Term, and behind it a command.
package entry

import (
	"stopcock/api"
	"stopcock/cmd"
	"stopcock/octet"
)

// Fits tells whether an entry has a Term and a valid command.
func Fits(x api.Entry) bool {
	return x.Term >= 1 && cmd.Check(x.Cmd) == api.OK
}

// Encode returns the encoding of an entry whose command is valid.
func Encode(x api.Entry) []byte {
	c, _ := cmd.Encode(x.Cmd)
	return append(octet.Num(x.Term), c...)
}

// Decode decodes the entry at the beginning of b, and says how many bytes it takes.
// If the command has all its numbers but is not valid, its place in the entry is left zero, which is no command either:
// so the bytes behind it can still be looked at, and whoever checks the entry finds that it may not be.
func Decode(b []byte) (api.Entry, int, api.Errno) {
	term, at, e := octet.ReadNum(b)
	if e != api.OK {
		return api.Entry{}, 0, e
	}
	c, k, e := cmd.Decode(b[at:])
	if e == api.ErrCmd {
		k, e = length(b[at:]), api.OK
	}
	if e != api.OK {
		return api.Entry{}, 0, e
	}
	return api.Entry{Term: term, Cmd: c}, at + k, api.OK
}

// length returns how many bytes the numbers of a command take that is not valid: with any fewer they end too early.
func length(b []byte) int {
	k := 0
	for k < len(b) {
		if _, _, e := cmd.Decode(b[:k]); e != api.ErrShort {
			break
		}
		k++
	}
	return k
}
