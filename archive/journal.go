package archive

import (
	"strings"

	"betatron/api"
)

const (
	timeBytes  = 6
	valueBytes = 6
	sumBytes   = 2
	behindName = timeBytes + valueBytes + 1 + sumBytes
	modulus    = 65521
	multiplier = 31
)

// number returns the lowest bytes of a number, the highest one first.
func number(n, bytes int) string {
	var l []byte
	for i := bytes - 1; i >= 0; i-- {
		l = append(l, byte(n>>(8*i)))
	}
	return string(l)
}

// value returns the number of some bytes.
func value(s string) int {
	n := 0
	for _, c := range []byte(s) {
		n = n<<8 | int(c)
	}
	return n
}

func checkSum(s string) int {
	sum := 1
	for _, c := range []byte(s) {
		sum = (sum*multiplier + int(c)) % modulus
	}
	return sum
}

// record returns the record of a stored reading.
func record(s api.Stored) string {
	good := 0
	if s.Data.Good {
		good = 1
	}
	text := number(len(s.Name), 1) + s.Name + number(s.Data.At, timeBytes) + number(s.Data.Value+api.MaxTime, valueBytes) + number(good, 1)
	return text + number(checkSum(text), sumBytes)
}

// Bytes returns the bytes of the journal.
func Bytes(a api.Archive) (string, api.Errno) {
	if e := Valid(a); e != api.OK {
		return "", e
	}
	var journal strings.Builder
	for _, s := range a.Data {
		journal.WriteString(record(s))
	}
	return journal.String(), api.OK
}

// first returns the reading of the record at the beginning of some bytes, and its length; false, if there is none.
func first(s string) (api.Stored, int, bool) {
	if s == "" || len(s) < 1+int(s[0])+behindName {
		return api.Stored{}, 0, false
	}
	nameEnd := 1 + int(s[0])
	timeEnd := nameEnd + timeBytes
	valueEnd := timeEnd + valueBytes
	length := nameEnd + behindName
	stored := api.Stored{Name: s[1:nameEnd]}
	stored.Data = api.Measurement{At: value(s[nameEnd:timeEnd]), Value: value(s[timeEnd:valueEnd]) - api.MaxTime, Good: s[valueEnd] == 1}
	if readingError(stored.Name, stored.Data) != api.OK || record(stored) != s[:length] {
		return api.Stored{}, 0, false
	}
	return stored, length, true
}

// Recover returns the archive of the complete records at the beginning of some bytes, and their length.
func Recover(deadband, silence int, s string) (api.Archive, int, api.Errno) {
	a, e := New(deadband, silence)
	if e != api.OK {
		return api.Archive{}, 0, e
	}
	if len(s) > mostJournal {
		return api.Archive{}, 0, api.ErrTooLarge
	}
	at := 0
	for {
		r, length, ok := first(s[at:])
		if !ok {
			return a, at, api.OK
		}
		// A reading that would be left out changes what came last, and is no record of a journal.
		next := own(a)
		isStored, e := put(&next, r.Name, r.Data)
		if e != api.OK || !isStored {
			return a, at, api.OK
		}
		a, at = next, at+length
	}
}
