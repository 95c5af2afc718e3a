package arg_test

import (
	"math"
	"slices"
	"strings"
	"testing"

	"cloister/store"
)

// A text ends at the first nought, whatever is behind it.
func TestP17_2FirstNought(t *testing.T) {
	for _, behind := range []string{"", "\x00", "\x00\x00", "x", "x\x00", "\x00x\x00", noughts(50), ink(50)} {
		for n := range 70 {
			text := ink(n)
			mem := text + "\x00" + behind
			v := store.Look(made(n%maxProcs, mem))
			for addr := range n + 1 {
				wantText(t, v, n%maxProcs, addr, n-addr, text[addr:])
				wantText(t, v, n%maxProcs, addr, 999, text[addr:])
			}
			wantRedo(t, v)
		}
	}
}

// A nought that is just most bytes on is near enough; one more is not.
func TestP17_2Most(t *testing.T) {
	for n := range 80 {
		for _, ahead := range []string{"", "\x00", ink(5), "ab\x00"} {
			v := store.Look(made(2, ahead+ink(n)+"\x00\x00"))
			for most := -3; most < n; most++ {
				wantNoText(t, v, 2, len(ahead), most)
			}
			for _, most := range append([]int{n, n + 1, n + 2, n + 50}, far()...) {
				if most >= n {
					wantText(t, v, 2, len(ahead), most, ink(n))
				} else {
					wantNoText(t, v, 2, len(ahead), most)
				}
			}
		}
	}
}

// A nought at addr itself ends a text of no bytes: none is more than a most of 0, any is more than one below.
func TestP17_2NoughtAtOnce(t *testing.T) {
	for _, size := range sizes() {
		v := store.Look(made(7, noughts(size)))
		for addr := range size {
			for _, most := range []int{0, 1, size, math.MaxInt} {
				wantText(t, v, 7, addr, most, "")
			}
			for _, most := range []int{-1, -2, -size, -addr - 1, -1 << 32, math.MinInt} {
				if most < 0 {
					wantNoText(t, v, 7, addr, most)
				}
			}
		}
	}
}

// The nought may be the last byte; at the size itself nothing is, so there isn't a nought behind.
func TestP17_2AtTheSize(t *testing.T) {
	for _, size := range sizes() {
		for _, mem := range []string{noughts(size), ink(size) + "\x00", ink(size)} {
			v := store.Look(made(0, mem))
			for _, most := range []int{0, 1, 5, size, 999, math.MaxInt, -1, math.MinInt} {
				for ahead := range 20 {
					wantNoText(t, v, 0, len(mem)+ahead, most)
				}
			}
		}
		v := store.Look(made(0, ink(size)+"\x00"))
		wantText(t, v, 0, size, 0, "")
		wantText(t, v, 0, 0, size, ink(size))
	}
}

// Without a nought behind there is no text, whatever is ahead, and however many bytes it may have.
func TestP17_2NoNought(t *testing.T) {
	for _, size := range sizes() {
		for _, ahead := range []string{"", "\x00", "\x00\x00", "a\x00"} {
			v := store.Look(made(1, ahead+ink(size)))
			for addr := range size + 1 {
				for _, most := range []int{0, 1, size - addr, size, 999, math.MaxInt, -1} {
					wantNoText(t, v, 1, len(ahead)+addr, most)
				}
			}
		}
	}
}

// An address far from all, or below 0, has no text, whatever it may be with most.
func TestP17_2FarAddresses(t *testing.T) {
	for _, mem := range []string{"", "\x00", noughts(16), ink(15) + "\x00", noughts(257)} {
		v := store.Look(made(6, mem))
		for _, addr := range append([]int{-1, -2, -15, -16, -17, -255, -256, -257}, far()...) {
			for _, most := range slices.Concat(far(), []int{0, 1, 5, 16, -1, -addr, 16 - addr, ^addr}) {
				wantNoText(t, v, 6, addr, most)
			}
		}
	}
}

// Every byte but nought stands in a text: alone, beside a letter of more than one byte, and with all others.
func TestP17_2EveryByte(t *testing.T) {
	all := ""
	for n := 1; n < 256; n++ {
		b := one(n)
		v := store.Look(made(3, "\x00"+b+"é"+b+"\x00"))
		wantText(t, v, 3, 1, 9, b+"é"+b)
		wantText(t, v, 3, 3, 2, "\xa9"+b)
		wantText(t, v, 3, 4, 1, b)
		all += b
	}
	v := store.Look(made(3, all+"\x00"))
	wantText(t, v, 3, 0, 255, all)
	wantNoText(t, v, 3, 0, 254)
}

// All texts of a few bytes, a nought among them: told by cutting at noughts.
func TestP17_2AllShortMemories(t *testing.T) {
	const letters = "\x00a\xff"
	for size := range 7 {
		for code := range power(len(letters), size) {
			mem := spelled(letters, code, size)
			v := store.Look(made(4, mem))
			for addr := range size {
				text, _, is := strings.Cut(mem[addr:], "\x00")
				for most := -1; most < 8; most++ {
					if is && len(text) <= most {
						wantText(t, v, 4, addr, most, text)
					} else {
						wantNoText(t, v, 4, addr, most)
					}
				}
			}
		}
	}
}

func power(base, n int) int {
	all := 1
	for range n {
		all *= base
	}
	return all
}

// spelled are n letters, as a number tells them.
func spelled(letters string, code, n int) string {
	var b []byte
	for range n {
		b = append(b, letters[code%len(letters)])
		code /= len(letters)
	}
	return string(b)
}
