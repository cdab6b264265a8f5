package device

import (
	"math"
	"math/rand"
	"slices"
	"strconv"
	"strings"
	"testing"
	"unsafe"

	"ossuary/api"
)

// zeros is a new disk's sector.
var zeros = strings.Repeat("\x00", 32)

// text tells a sector of its own for each n.
func text(n int) string {
	s := strconv.Itoa(n)
	return s + strings.Repeat("~", 32-len(s))
}

// kept tells n sectors.
func kept(n int) []string {
	l := make([]string, n)
	for i := range l {
		l[i] = text(-1 - i)
	}
	return l
}

// disk tells a disk of n sectors, to which was written at these places, one behind the other: text(0), text(1) ..
func disk(n int, at ...int) api.Disk {
	d := api.Disk{Kept: kept(n), Fuse: -1}
	for i, a := range at {
		d.Cache = append(d.Cache, api.Put{At: a, Text: text(i)})
	}
	return d
}

// full tells a disk of n sectors with so many in its Cache.
func full(n, many int) api.Disk {
	at := make([]int, many)
	for i := range at {
		at[i] = (i*7 + 1) % n
	}
	return disk(n, at...)
}

// with tells d, changed.
func with(d api.Disk, change func(d *api.Disk)) api.Disk {
	d = twin(d)
	change(&d)
	return d
}

// dead tells d, dead, with all else as it is.
func dead(d api.Disk) api.Disk {
	return with(d, func(d *api.Disk) { d.Dead = true })
}

// twin tells d in memory of its own.
func twin(d api.Disk) api.Disk {
	d.Kept = slices.Clone(d.Kept)
	d.Cache = slices.Clone(d.Cache)
	d.Keep = slices.Clone(d.Keep)
	return d
}

// same holds an empty list and a nil one for the same (R5).
func same(a, b api.Disk) bool {
	return slices.Equal(a.Kept, b.Kept) && slices.Equal(a.Cache, b.Cache) && slices.Equal(a.Keep, b.Keep) &&
		a.Fuse == b.Fuse && a.Dead == b.Dead
}

// brief tells d for a message, however long it is.
func brief(d api.Disk) string {
	s := strconv.Itoa(len(d.Kept)) + " sectors, " + strconv.Itoa(len(d.Cache)) + " in the Cache, fuse " + strconv.Itoa(d.Fuse) +
		", " + strconv.Itoa(len(d.Keep)) + " in Keep, dead " + strconv.FormatBool(d.Dead)
	if len(d.Kept)+len(d.Cache) > 12 {
		return s
	}
	for _, k := range d.Kept {
		s += "; " + k
	}
	for _, p := range d.Cache {
		s += "; " + strconv.Itoa(p.At) + ": " + p.Text
	}
	return s
}

func checkDisk(t *testing.T, what string, got, want api.Disk) {
	t.Helper()
	if !same(got, want) {
		t.Errorf("%s: %s\nnot %s", what, brief(got), brief(want))
	}
}

func checkMay(t *testing.T, d api.Disk, want bool) {
	t.Helper()
	if May(d) != want {
		t.Errorf("May: %v of %s", !want, brief(d))
	}
}

func checkRead(t *testing.T, d api.Disk, at int, want string, wrong api.Errno) {
	t.Helper()
	before := twin(d)
	if s, e := Read(d, at); s != want || e != wrong {
		t.Errorf("Read at %d: %q, %d, not %q, %d; of %s", at, s, e, want, wrong, brief(d))
	}
	checkDisk(t, "argument of Read", d, before)
}

func checkWrite(t *testing.T, d api.Disk, at int, s string, want api.Disk, wrong api.Errno) {
	t.Helper()
	before := twin(d)
	got, e := Write(d, at, s)
	if e != wrong {
		t.Errorf("Write at %d of %d bytes: %d, not %d; of %s", at, len(s), e, wrong, brief(d))
	}
	checkDisk(t, "Write", got, want)
	checkDisk(t, "argument of Write", d, before)
}

func checkFlush(t *testing.T, d api.Disk, want api.Disk, wrong api.Errno) {
	t.Helper()
	before := twin(d)
	got, e := Flush(d)
	if e != wrong {
		t.Errorf("Flush: %d, not %d; of %s", e, wrong, brief(d))
	}
	checkDisk(t, "Flush", got, want)
	checkDisk(t, "argument of Flush", d, before)
}

func checkArm(t *testing.T, d api.Disk, fuse int, keep []bool, want api.Disk) {
	t.Helper()
	before, asked := twin(d), slices.Clone(keep)
	checkDisk(t, "Arm", Arm(d, fuse, keep), want)
	checkDisk(t, "argument of Arm", d, before)
	if !slices.Equal(keep, asked) {
		t.Errorf("Arm changed its keep")
	}
}

func checkDie(t *testing.T, d api.Disk, keep []bool, want api.Disk) {
	t.Helper()
	before, asked := twin(d), slices.Clone(keep)
	checkDisk(t, "Die", Die(d, keep), want)
	checkDisk(t, "argument of Die", d, before)
	if !slices.Equal(keep, asked) {
		t.Errorf("Die changed its keep")
	}
}

func checkRevive(t *testing.T, d, want api.Disk) {
	t.Helper()
	before := twin(d)
	checkDisk(t, "Revive", Revive(d), want)
	checkDisk(t, "argument of Revive", d, before)
}

// checkNone holds that all calls tell nothing of d, which may not be, and ErrArg.
func checkNone(t *testing.T, d api.Disk) {
	t.Helper()
	checkMay(t, d, false)
	for _, d := range []api.Disk{d, dead(d)} {
		for _, at := range []int{-1, 0, 5, 9999} {
			checkRead(t, d, at, "", api.ErrArg)
			checkWrite(t, d, at, text(1), api.Disk{}, api.ErrArg)
		}
		checkWrite(t, d, 0, "", api.Disk{}, api.ErrArg)
		checkFlush(t, d, api.Disk{}, api.ErrArg)
		checkArm(t, d, 3, []bool{true}, api.Disk{})
		checkDie(t, d, []bool{true}, api.Disk{})
		checkDie(t, d, nil, api.Disk{})
		checkRevive(t, d, api.Disk{})
	}
}

// bits tells a keep by digits.
func bits(s string) []bool {
	var l []bool
	for i := range len(s) {
		l = append(l, s[i] == '1')
	}
	return l
}

// died tells the disk that d is behind its death, by the words of Die: one of the Cache after the other.
func died(d api.Disk, keep []bool) api.Disk {
	sectors := slices.Clone(d.Kept)
	for place, p := range d.Cache {
		if place < len(keep) && keep[place] {
			sectors[p.At] = p.Text
		}
	}
	return api.Disk{Kept: sectors, Fuse: -1, Dead: true}
}

// P9.1
func TestNew(t *testing.T) {
	for _, n := range []int{math.MinInt, -5000, -2, -1, 0, 5001, 5002, 10000, math.MaxInt} {
		d, e := New(n)
		if e != api.ErrArg {
			t.Errorf("New(%d): %d", n, e)
		}
		checkDisk(t, "New", d, api.Disk{})
	}
	for _, n := range []int{1, 2, 3, 100, 4999, 5000} {
		d, e := New(n)
		if e != api.OK || len(d.Kept) != n {
			t.Errorf("New(%d): %d, and %d sectors", n, e, len(d.Kept))
		}
		checkDisk(t, "New", d, api.Disk{Kept: slices.Repeat([]string{zeros}, n), Fuse: -1})
		checkMay(t, d, true)
		for _, at := range []int{0, n / 2, n - 1} {
			checkRead(t, d, at, zeros, api.OK)
		}
		checkRead(t, d, n, "", api.ErrArg)
	}
}

// The words: 1 to 5000 sectors.
func TestMaySectors(t *testing.T) {
	for _, n := range []int{1, 2, 4999, 5000} {
		checkMay(t, disk(n), true)
		checkMay(t, dead(disk(n)), true)
	}
	checkNone(t, api.Disk{})
	checkNone(t, api.Disk{Fuse: -1})
	checkNone(t, api.Disk{Kept: []string{}, Fuse: -1})
	checkNone(t, disk(5001))
	checkNone(t, disk(20000))
}

// The words: each of 32 bytes, whichever they are.
func TestMaySector(t *testing.T) {
	for _, n := range []int{1, 2, 9} {
		for at := range n {
			for _, size := range []int{0, 1, 31, 33, 64} {
				checkNone(t, with(disk(n), func(d *api.Disk) { d.Kept[at] = strings.Repeat("a", size) }))
			}
			checkMay(t, with(disk(n), func(d *api.Disk) { d.Kept[at] = strings.Repeat("\xff", 32) }), true)
			// 32 letters, but more bytes; fewer letters, but 32 bytes.
			checkNone(t, with(disk(n), func(d *api.Disk) { d.Kept[at] = strings.Repeat("é", 32) }))
			checkMay(t, with(disk(n), func(d *api.Disk) { d.Kept[at] = strings.Repeat("é", 16) }), true)
		}
	}
	most := disk(5000)
	for at, right := range most.Kept {
		for _, wrong := range []string{right[:31], right + "a"} {
			most.Kept[at] = wrong
			checkMay(t, most, false)
		}
		most.Kept[at] = right
	}
	checkMay(t, most, true)
}

// The words: at most 20000 in the Cache.
func TestMayCache(t *testing.T) {
	for _, n := range []int{1, 3, 5000} {
		checkMay(t, full(n, 19999), true)
		checkMay(t, full(n, 20000), true)
		checkNone(t, full(n, 20001))
	}
	checkMay(t, with(disk(1), func(d *api.Disk) { d.Cache = []api.Put{} }), true)
	checkNone(t, full(1, 40000))
}

// The words: each of the Cache is of a sector that there is, and of 32 bytes.
func TestMayPut(t *testing.T) {
	for place := range 3 {
		put := func(at int, s string) api.Disk {
			return with(disk(4, 0, 1, 0), func(d *api.Disk) { d.Cache[place] = api.Put{At: at, Text: s} })
		}
		for _, at := range []int{math.MinInt, -4, -1, 4, 5, 5000, math.MaxInt} {
			checkNone(t, put(at, text(7)))
		}
		for at := range 4 {
			checkMay(t, put(at, text(7)), true)
			for _, size := range []int{0, 1, 31, 33, 64} {
				checkNone(t, put(at, strings.Repeat("a", size)))
			}
		}
	}
	for _, place := range []int{0, 10000, 19999} {
		checkNone(t, with(full(5000, 20000), func(d *api.Disk) { d.Cache[place].At = 5000 }))
		checkNone(t, with(full(5000, 20000), func(d *api.Disk) { d.Cache[place].Text += "a" }))
	}
}

// The words: Fuse is -1 or more; of Keep and Dead nothing is said.
func TestMayFuse(t *testing.T) {
	for _, fuse := range []int{math.MinInt, -3, -2} {
		checkNone(t, with(disk(2, 1), func(d *api.Disk) { d.Fuse = fuse }))
	}
	for _, fuse := range []int{-1, 0, 1, 2, 20001, math.MaxInt} {
		for _, keep := range [][]bool{nil, {}, {true}, bits("0101"), make([]bool, 30000)} {
			d := with(disk(2, 1), func(d *api.Disk) { d.Fuse, d.Keep = fuse, keep })
			checkMay(t, d, true)
			checkMay(t, dead(d), true)
		}
	}
}

// The words: of a disk that may not be for several reasons.
func TestNone(t *testing.T) {
	checkNone(t, api.Disk{Kept: []string{"a"}, Cache: []api.Put{{At: 3}}, Fuse: -2, Keep: bits("1")})
	checkNone(t, api.Disk{Cache: []api.Put{{Text: zeros}}, Fuse: 1})
	checkNone(t, api.Disk{Keep: bits("1"), Dead: true})
}

// P9.2
func TestRead(t *testing.T) {
	d := disk(4, 1, 3, 1, 2, 1)
	checkRead(t, d, 0, text(-1), api.OK)
	checkRead(t, d, 1, text(4), api.OK)
	checkRead(t, d, 2, text(3), api.OK)
	checkRead(t, d, 3, text(1), api.OK)
	for _, at := range []int{math.MinInt, -4, -1, 4, 5, 5000, math.MaxInt} {
		checkRead(t, d, at, "", api.ErrArg)
	}
	// How the disk is armed is of no moment.
	for _, fuse := range []int{-1, 0, 1} {
		checkRead(t, with(d, func(d *api.Disk) { d.Fuse, d.Keep = fuse, bits("111") }), 1, text(4), api.OK)
	}
	most := full(5000, 20000)
	checkRead(t, most, 4999, text(slices.IndexFunc(most.Cache[15000:], func(p api.Put) bool { return p.At == 4999 })+15000), api.OK)
	checkRead(t, most, 5000, "", api.ErrArg)
	checkRead(t, disk(5000), 4999, text(-5000), api.OK)
}

// P9.2 to P9.5: a dead disk, whatever it has, also where there is no such sector and no such text.
func TestDead(t *testing.T) {
	for _, d := range []api.Disk{disk(2), disk(2, 1, 0, 1), full(3, 20000), disk(1)} {
		d.Dead, d.Fuse, d.Keep = true, 1, bits("011")
		for _, at := range []int{math.MinInt, -1, 0, 1, 2, 3, 5000, math.MaxInt} {
			checkRead(t, d, at, "", api.ErrDead)
			for _, s := range []string{text(9), "", strings.Repeat("a", 31), strings.Repeat("a", 33)} {
				checkWrite(t, d, at, s, d, api.ErrDead)
			}
		}
		checkFlush(t, d, d, api.ErrDead)
		checkArm(t, d, 7, bits("10"), with(d, func(d *api.Disk) { d.Fuse, d.Keep = 7, bits("10") }))
		checkArm(t, d, -7, nil, with(d, func(d *api.Disk) { d.Fuse, d.Keep = -1, nil }))
		checkDie(t, d, nil, died(d, nil))
		checkDie(t, d, bits("101"), died(d, bits("101")))
		checkRevive(t, d, api.Disk{Kept: d.Kept, Fuse: -1})
		// A fuse of 0 does not kill twice.
		d.Fuse = 0
		checkWrite(t, d, 0, text(9), d, api.ErrDead)
	}
}

// P9.3
func TestWrite(t *testing.T) {
	d := disk(3)
	for at := range 3 {
		checkWrite(t, d, at, text(0), disk(3, at), api.OK)
		checkWrite(t, disk(3, 1, 2), at, text(2), disk(3, 1, 2, at), api.OK)
	}
	// What stands there already is written again.
	checkWrite(t, disk(1, 0), 0, text(0), api.Disk{Kept: kept(1), Cache: []api.Put{{Text: text(0)}, {Text: text(0)}}, Fuse: -1}, api.OK)
	checkWrite(t, disk(5000), 4999, text(0), disk(5000, 4999), api.OK)
}

// P9.3: no such sector, or no text of 32 bytes: the disk itself, whose fuse does not burn.
func TestWriteOfNone(t *testing.T) {
	for _, fuse := range []int{-1, 0, 1, 2} {
		d := with(disk(3, 2, 0), func(d *api.Disk) { d.Fuse, d.Keep = fuse, bits("101") })
		for _, at := range []int{math.MinInt, -3, -1, 3, 4, 5000, math.MaxInt} {
			checkWrite(t, d, at, text(9), d, api.ErrArg)
			checkWrite(t, d, at, "", d, api.ErrArg)
		}
		for _, size := range []int{0, 1, 31, 33, 64, 1 << 20} {
			for at := range 3 {
				checkWrite(t, d, at, strings.Repeat("a", size), d, api.ErrArg)
			}
		}
		checkWrite(t, d, 0, strings.Repeat("é", 32), d, api.ErrArg)
	}
}

// P9.3: 19999 and 20000 in the Cache.
func TestWriteOfFull(t *testing.T) {
	for _, n := range []int{1, 5000} {
		most, less := full(n, 20000), full(n, 19999)
		last := most.Cache[19999]
		checkWrite(t, less, last.At, last.Text, most, api.OK)
		for _, fuse := range []int{-1, 0, 1} {
			d := with(most, func(d *api.Disk) { d.Fuse, d.Keep = fuse, bits("11") })
			checkWrite(t, d, last.At, last.Text, d, api.ErrArg)
		}
		// With the last one that there is room for it may die still.
		keep := slices.Repeat([]bool{true}, 20000)
		armed := with(less, func(d *api.Disk) { d.Fuse, d.Keep = 0, keep })
		checkWrite(t, armed, last.At, last.Text, died(most, keep), api.ErrDead)
	}
	// What is flushed makes room.
	d, _ := Flush(full(2, 20000))
	checkWrite(t, d, 1, text(5), with(d, func(d *api.Disk) { d.Cache = []api.Put{{At: 1, Text: text(5)}} }), api.OK)
}

// P9.3: Fuse -1, 0, 1 and 2, with a Keep that is shorter, just as long, and longer than the Cache.
func TestFuse(t *testing.T) {
	for _, keep := range []string{"", "0", "1", "01", "10", "11", "001", "010", "011", "100", "110", "111", "1111", "0011", "00011", "0000000001"} {
		armed := func(fuse int, at ...int) api.Disk {
			return with(disk(3, at...), func(d *api.Disk) { d.Fuse, d.Keep = fuse, bits(keep) })
		}
		checkWrite(t, armed(-1, 0, 1), 0, text(2), armed(-1, 0, 1, 0), api.OK)
		checkWrite(t, armed(2, 0, 1), 0, text(2), armed(1, 0, 1, 0), api.OK)
		checkWrite(t, armed(1, 0, 1), 0, text(2), armed(0, 0, 1, 0), api.OK)
		checkWrite(t, armed(0, 0, 1), 0, text(2), died(disk(3, 0, 1, 0), bits(keep)), api.ErrDead)
		checkWrite(t, armed(0), 2, text(0), died(disk(3, 2), bits(keep)), api.ErrDead)
		checkWrite(t, armed(math.MaxInt, 0, 1), 0, text(2), armed(math.MaxInt-1, 0, 1, 0), api.OK)
	}
	// By hand: the write that kills is kept too, if it is told.
	d := Arm(disk(2, 0), 0, bits("01"))
	checkWrite(t, d, 1, text(1), api.Disk{Kept: []string{text(-1), text(1)}, Fuse: -1, Dead: true}, api.ErrDead)
	d = Arm(disk(2, 0), 0, bits("10"))
	checkWrite(t, d, 1, text(1), api.Disk{Kept: []string{text(0), text(-2)}, Fuse: -1, Dead: true}, api.ErrDead)
}

// P9.3: so many writes as the fuse tells are made, and the next one kills; a flush between changes none of that.
func TestFuseBurns(t *testing.T) {
	for fuse := range 5 {
		for flushed := -1; flushed < fuse; flushed++ {
			d := Arm(disk(2), fuse, bits("1111111"))
			for n := range fuse {
				var e api.Errno
				if d, e = Write(d, n%2, text(n)); e != api.OK || d.Fuse != fuse-n-1 || d.Dead {
					t.Errorf("write %d with a fuse of %d: %d, %s", n, fuse, e, brief(d))
				}
				if n == flushed {
					d, _ = Flush(d)
				}
			}
			last, e := Write(d, 1, text(100))
			if e != api.ErrDead || !last.Dead || last.Kept[1] != text(100) {
				t.Errorf("a fuse of %d does not kill: %d, %s", fuse, e, brief(last))
			}
		}
	}
}

// P9.4
func TestFlush(t *testing.T) {
	checkFlush(t, disk(3), disk(3), api.OK)
	want := disk(4)
	want.Kept = []string{text(-1), text(4), text(3), text(1)}
	checkFlush(t, disk(4, 1, 3, 1, 2, 1), want, api.OK)
	// What is kept then does not hang on Keep, which stays, as Fuse does.
	for _, fuse := range []int{-1, 0, 1, math.MaxInt} {
		for _, keep := range []string{"", "0", "10", "11111", "000000"} {
			arm := func(d *api.Disk) { d.Fuse, d.Keep = fuse, bits(keep) }
			checkFlush(t, with(disk(4, 1, 3, 1, 2, 1), arm), with(want, arm), api.OK)
		}
	}
	most := full(5000, 20000)
	all := died(most, slices.Repeat([]bool{true}, 20000))
	checkFlush(t, most, api.Disk{Kept: all.Kept, Fuse: -1}, api.OK)
}

// P9.5: Arm changes Fuse and Keep alone.
func TestArm(t *testing.T) {
	d := with(disk(3, 2, 0), func(d *api.Disk) { d.Fuse, d.Keep = 5, bits("0110") })
	for fuse, want := range map[int]int{
		math.MinInt: -1, math.MinInt + 1: -1, -3: -1, -2: -1, -1: -1, 0: 0, 1: 1, 2: 2, 20001: 20001, math.MaxInt: math.MaxInt,
	} {
		for _, keep := range [][]bool{nil, {}, {true}, {false}, bits("0101010101"), make([]bool, 1<<16)} {
			armed := with(d, func(d *api.Disk) { d.Fuse, d.Keep = want, keep })
			checkArm(t, d, fuse, keep, armed)
			checkArm(t, dead(d), fuse, keep, dead(armed))
			checkMay(t, Arm(d, fuse, keep), true)
		}
	}
}

// P9.5: Die by hand: keep that is nil, empty, shorter, as long and longer than the Cache.
func TestDie(t *testing.T) {
	for keep, want := range map[string][2]int{
		"":       {-1, -2},
		"0":      {-1, -2},
		"1":      {0, -2},
		"01":     {-1, 1},
		"11":     {0, 1},
		"101":    {2, -2},
		"001":    {2, -2},
		"111":    {2, 1},
		"110":    {0, 1},
		"000":    {-1, -2},
		"0001":   {-1, -2},
		"1111":   {2, 1},
		"010000": {-1, 1},
	} {
		d := with(disk(2, 0, 1, 0), func(d *api.Disk) { d.Fuse, d.Keep = 3, bits("111") })
		checkDie(t, d, bits(keep), api.Disk{Kept: []string{text(want[0]), text(want[1])}, Fuse: -1, Dead: true})
	}
	checkDie(t, disk(2, 0, 1, 0), nil, dead(disk(2)))
	checkDie(t, disk(2, 0, 1, 0), []bool{}, dead(disk(2)))
	checkDie(t, disk(3), bits("111"), dead(disk(3)))
	checkDie(t, disk(2, 1), slices.Repeat([]bool{true}, 1<<20), died(disk(2, 1), bits("1")))
}

// P9.5: a sector that is written several times, kept in every part.
func TestDieInPart(t *testing.T) {
	for _, at := range [][]int{{0, 0, 0, 0, 0}, {0, 1, 0, 1, 0}, {2, 1, 0, 1, 2}, {1, 1, 2, 2, 1, 2}} {
		for size := range len(at) + 2 {
			for mask := range 1 << size {
				var keep []bool
				for place := range size {
					keep = append(keep, mask>>place&1 == 1)
				}
				d := disk(3, at...)
				checkDie(t, d, keep, died(d, keep))
				// To die by the last write is the same.
				last := d.Cache[len(at)-1]
				d.Cache = d.Cache[:len(at)-1]
				checkWrite(t, Arm(d, 0, keep), last.At, last.Text, died(disk(3, at...), keep), api.ErrDead)
			}
		}
	}
}

// P9.5: Revive, also of a disk that is not dead.
func TestRevive(t *testing.T) {
	for _, d := range []api.Disk{disk(1), disk(3, 1, 2, 1), full(5000, 20000)} {
		for _, fuse := range []int{-1, 0, 1} {
			armed := with(d, func(d *api.Disk) { d.Fuse, d.Keep = fuse, bits("11") })
			checkRevive(t, armed, disk(len(d.Kept)))
			checkRevive(t, dead(armed), disk(len(d.Kept)))
		}
		checkRevive(t, Die(d, bits("11")), api.Disk{Kept: died(d, bits("11")).Kept, Fuse: -1})
	}
	// What is read of it is what was kept.
	d := Revive(Die(disk(2, 0, 1, 0), bits("01")))
	checkRead(t, d, 0, text(-1), api.OK)
	checkRead(t, d, 1, text(1), api.OK)
}

// The chapter's example.
func TestExample(t *testing.T) {
	d, _ := New(2)
	d, _ = Write(d, 1, text(1))
	checkDie(t, d, bits("1"), api.Disk{Kept: []string{zeros, text(1)}, Fuse: -1, Dead: true})
	checkDie(t, d, nil, api.Disk{Kept: []string{zeros, zeros}, Fuse: -1, Dead: true})
}

// history tells of a sector what was flushed last, and what was written since.
type history struct {
	flushed string
	since   []string
}

func (h history) last() string {
	return append([]string{h.flushed}, h.since...)[len(h.since)]
}

// checkHistory holds that each sector of a living disk is read as it was written last.
func checkHistory(t *testing.T, d api.Disk, l []history) {
	t.Helper()
	for at, h := range l {
		checkRead(t, d, at, h.last(), api.OK)
	}
}

// revived holds of a disk that died that each sector has what it had at the last flush, or what was written since; and tells it, revived, and what was kept.
func revived(t *testing.T, d api.Disk, l []history) (api.Disk, []history) {
	t.Helper()
	if !d.Dead || !May(d) {
		t.Fatalf("no dead disk: %s", brief(d))
	}
	checkRead(t, d, 0, "", api.ErrDead)
	d = Revive(d)
	after := make([]history, len(l))
	for at, h := range l {
		s, e := Read(d, at)
		if e != api.OK || s != h.flushed && !slices.Contains(h.since, s) {
			t.Errorf("the sector %d is %q behind a death, %d", at, s, e)
		}
		after[at].flushed = s
	}
	return d, after
}

// anyKeep tells up to n of either.
func anyKeep(r *rand.Rand, n int) []bool {
	l := make([]bool, r.Intn(n+1))
	for i := range l {
		l[i] = r.Intn(2) == 1
	}
	return l
}

// P9.6: whatever is written, flushed, armed, killed and revived.
func TestHistories(t *testing.T) {
	deaths := 0
	for seed := range 150 {
		r := rand.New(rand.NewSource(int64(seed)))
		n := 1 + r.Intn(6)
		d, _ := New(n)
		l := slices.Repeat([]history{{flushed: zeros}}, n)
		for step := range 150 {
			switch r.Intn(12) {
			case 0:
				d, _ = Flush(d)
				for at, h := range l {
					l[at] = history{flushed: h.last()}
				}
			case 1:
				d = Arm(d, r.Intn(9)-2, anyKeep(r, 12))
			case 2:
				d, l = revived(t, Die(d, anyKeep(r, 12)), l)
				deaths++
			default:
				at, e := r.Intn(n), api.OK
				d, e = Write(d, at, text(step))
				l[at].since = append(slices.Clone(l[at].since), text(step))
				if e == api.ErrDead {
					d, l = revived(t, d, l)
					deaths++
				}
			}
			checkHistory(t, d, l)
		}
	}
	if deaths < 1000 {
		t.Errorf("%d deaths", deaths)
	}
}

// P9.6: what is flushed is read ever after, also behind deaths that keep all or nothing.
func TestFlushedIsRead(t *testing.T) {
	d, _ := Flush(disk(3, 0, 1, 0))
	for _, keep := range [][]bool{nil, bits("0000"), bits("1111")} {
		d, _ = Write(d, 2, text(8))
		d = Revive(Die(d, keep))
		checkRead(t, d, 0, text(2), api.OK)
		checkRead(t, d, 1, text(1), api.OK)
	}
}

// spoil changes all that there is to change in d's memory, up to what there is room for.
func spoil(d api.Disk) {
	for i := range d.Kept[:cap(d.Kept)] {
		d.Kept[:cap(d.Kept)][i] = "spoilt"
	}
	for i := range d.Cache[:cap(d.Cache)] {
		d.Cache[:cap(d.Cache)][i] = api.Put{At: 77, Text: "spoilt"}
	}
	for i := range d.Keep[:cap(d.Keep)] {
		d.Keep[:cap(d.Keep)][i] = !d.Keep[:cap(d.Keep)][i]
	}
}

// answers tells each call's answer to d, where it is a disk.
func answers(d api.Disk, keep []bool) []api.Disk {
	written, _ := Write(d, 1, text(50))
	refused, _ := Write(d, -1, text(50))
	short, _ := Write(d, 1, "")
	flushed, _ := Flush(d)
	made, _ := New(2)
	return []api.Disk{written, refused, short, flushed, made, Arm(d, 4, keep), Arm(d, 4, d.Keep), Die(d, keep), Die(d, nil), Revive(d)}
}

// someDisks has disks that answer in every way.
func someDisks() []api.Disk {
	// Room behind a list's end must not be written to either.
	roomy := disk(2, 0, 1)
	roomy.Kept = slices.Grow(roomy.Kept, 9)
	roomy.Cache = slices.Grow(roomy.Cache, 9)
	roomy.Keep = append(make([]bool, 0, 9), true)
	var l []api.Disk
	for _, d := range []api.Disk{disk(2), disk(2, 1, 0, 1), full(2, 20000), roomy} {
		for _, fuse := range []int{-1, 0, 1} {
			armed := d
			armed.Fuse = fuse
			l = append(l, armed)
			armed.Dead = true
			l = append(l, armed)
			armed.Keep = bits("011")
			l = append(l, armed)
			armed.Dead = false
			l = append(l, armed)
		}
	}
	return l
}

// R4: to change an answer changes no argument, and no other answer; to change an argument changes no answer.
func TestAnswersAreNew(t *testing.T) {
	for _, d := range someDisks() {
		before, keep := twin(d), bits("110")
		want := answers(before, keep)
		for i := range want {
			got := answers(d, keep)
			spoil(got[i])
			checkDisk(t, "the argument of a spoilt answer", d, before)
			if !slices.Equal(keep, bits("110")) {
				t.Errorf("the keep of a spoilt answer: %v", keep)
			}
			for j := range want {
				if j != i {
					checkDisk(t, "an answer beside a spoilt one", got[j], want[j])
				}
			}
		}
		given := twin(d)
		got := answers(given, keep)
		spoil(given)
		clear(keep)
		for i := range want {
			checkDisk(t, "the answer of a spoilt argument", got[i], want[i])
		}
	}
}

// R4: nor is what stands in the room behind an argument's lists changed.
func TestRoomBehind(t *testing.T) {
	d := disk(2, 0, 1, 1, 0)
	shorter := with(d, func(d *api.Disk) {
		d.Cache, d.Keep = d.Cache[:2], bits("1111")[:1]
	})
	answers(shorter, shorter.Keep)
	if !slices.Equal(shorter.Cache[:4], d.Cache) || !slices.Equal(shorter.Keep[:4], bits("1111")) {
		t.Errorf("behind the lists: %v, %v", shorter.Cache[:4], shorter.Keep[:4])
	}
}

// texts tells where each text of d is.
func texts(d api.Disk) []*byte {
	var l []*byte
	for _, s := range d.Kept {
		l = append(l, unsafe.StringData(s))
	}
	for _, p := range d.Cache {
		l = append(l, unsafe.StringData(p.Text))
	}
	return l
}

// R4: texts are new memory too.
func TestTextsAreNew(t *testing.T) {
	s := text(50)
	for _, d := range someDisks() {
		seen := map[*byte]bool{unsafe.StringData(s): true}
		for _, at := range texts(d) {
			seen[at] = true
		}
		written, _ := Write(d, 1, s)
		flushed, _ := Flush(d)
		again, _ := Flush(d)
		one, _ := Read(d, 1)
		other, _ := Read(d, 1)
		made, _ := New(2)
		more, _ := New(2)
		all := slices.Concat(texts(written), texts(flushed), texts(again), texts(Arm(d, 1, nil)), texts(Die(d, bits("11"))), texts(Revive(d)), texts(made), texts(more))
		if !d.Dead {
			all = append(all, unsafe.StringData(one), unsafe.StringData(other))
		}
		for i, at := range all {
			if seen[at] {
				t.Errorf("text %d of the answers to %s is not new", i, brief(d))
			}
			seen[at] = true
		}
	}
}

// R5: an empty list and a nil one are the same.
func TestEmptyIsNil(t *testing.T) {
	empty := api.Disk{Kept: kept(2), Cache: []api.Put{}, Fuse: 0, Keep: []bool{}}
	none := api.Disk{Kept: kept(2), Fuse: 0}
	checkMay(t, empty, true)
	checkMay(t, none, true)
	for at := range 2 {
		checkRead(t, empty, at, text(-1-at), api.OK)
		checkWrite(t, empty, at, text(9), dead(disk(2)), api.ErrDead)
		checkWrite(t, none, at, text(9), dead(disk(2)), api.ErrDead)
	}
	checkFlush(t, empty, none, api.OK)
	checkFlush(t, none, empty, api.OK)
	checkArm(t, empty, -1, nil, disk(2))
	checkArm(t, none, -1, []bool{}, disk(2))
	checkDie(t, empty, nil, dead(disk(2)))
	checkDie(t, none, []bool{}, dead(disk(2)))
	checkRevive(t, empty, disk(2))
}
