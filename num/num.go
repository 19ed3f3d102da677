// Package num is layer 1: see shared/doc/01-num.md.
package num

import "math/bits"

// Clamp: a number, or the nearer end; lo, if the ends are the wrong way round.
func Clamp(n, lo, hi int) int {
	if hi < lo || n < lo {
		return lo
	}
	if n > hi {
		return hi
	}
	return n
}

// Mod: what is left over, never below 0; 0, if m is below 1.
func Mod(n, m int) int {
	if m < 1 {
		return 0
	}
	rest := n % m
	if rest < 0 {
		// Added to the rest, not to n: that can't wrap round.
		rest += m
	}
	return rest
}

// Bit: is a bit of a number 1?
func Bit(n, at int) bool {
	if at < 0 || at > 63 {
		return false
	}
	return uint64(n)>>uint(at)&1 == 1
}

// Ones: how many bits are 1.
func Ones(n int) int {
	return bits.OnesCount64(uint64(n))
}

// Double: a number, doubled so often, or the most.
func Double(n, times, most int) int {
	n, times, most = max(n, 0), max(times, 0), max(most, 0)
	if n > most {
		return most
	}
	if n == 0 {
		// 0 never gets above the most: going through all times would take too long.
		return 0
	}
	for range times {
		// Asked ahead of doubling, so that the sum can't wrap round.
		if n > most-n {
			return most
		}
		n += n
	}
	return n
}
