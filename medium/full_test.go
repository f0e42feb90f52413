package medium_test

import (
	"testing"

	"dailies/api"
	"dailies/medium"
)

// most is how many bytes a medium has at most, by the chapter's number.
const most = 268435456

// appends makes one Append that must be taken, or refused with nothing changed.
func appends(t *testing.T, m *medium.Medium, n int, want api.Errno) {
	t.Helper()
	size, dead := m.Size(), m.Dead()
	at, e := m.Append(make([]byte, n))
	if e != want {
		t.Fatalf("Append of %d bytes to %d: %v, not %v", n, size, e, want)
	}
	if e == api.OK && (at != size || m.Size() != size+n) {
		t.Fatal(at, size, n, m.Size())
	}
	if e == api.ErrMediumFull && (at != 0 || m.Size() != size || m.Dead() != dead) {
		t.Fatal(at, size, n, m.Size(), m.Dead())
	}
}

// ends looks whether a medium has so many bytes, this one behind all others.
func ends(t *testing.T, m *medium.Medium, size int, last byte) {
	t.Helper()
	b, e := m.Read(size-1, 1)
	if m.Size() != size || len(b) != 1 || b[0] != last || e != api.OK {
		t.Fatal(m.Size(), b, e)
	}
	if _, e := m.Read(size, 1); e != api.ErrMediumRange {
		t.Fatal(e)
	}
}

// Load takes just MaxMedium bytes and not one more; a medium that has them is full.
func TestFullByLoad(t *testing.T) {
	b := make([]byte, most+1)
	b[most-1], b[most] = 7, 8
	if m, e := medium.Load(b); m != nil || e != api.ErrMediumFull {
		t.Fatal(m, e)
	}
	m, e := medium.Load(b[:most])
	if m == nil || e != api.OK {
		t.Fatal(m, e)
	}
	ends(t, m, most, 7)
	appends(t, m, 0, api.OK)
	for _, n := range []int{1, 2, most, most + 1} {
		appends(t, m, n, api.ErrMediumFull)
	}
	ends(t, m, most, 7)
	if b, e := m.Read(most, 0); len(b) != 0 || e != api.OK {
		t.Fatal(len(b), e)
	}
	if e := m.Overwrite(most-1, []byte{9, 9}); e != api.ErrMediumRange {
		t.Fatal(e)
	}
	if e := m.Overwrite(most-1, []byte{9}); e != api.OK {
		t.Fatal(e)
	}
	ends(t, m, most, 9)
	x, e := m.Piece(api.Span{At: 0, Length: most})
	if e != api.OK || x.Size() != most {
		t.Fatal(e)
	}
	if b, e := x.Read(most-1, 1); e != api.OK || b[0] != 9 {
		t.Fatal(b, e)
	}
	if _, e := m.Piece(api.Span{At: 1, Length: most}); e != api.ErrMediumRange {
		t.Fatal(e)
	}
	if e := m.Truncate(most + 1); e != api.ErrMediumRange {
		t.Fatal(e)
	}
	if e := m.Truncate(most - 2); e != api.OK {
		t.Fatal(e)
	}
	appends(t, m, 3, api.ErrMediumFull)
	appends(t, m, 1, api.OK)
	appends(t, m, 2, api.ErrMediumFull)
	appends(t, m, 1, api.OK)
	appends(t, m, 1, api.ErrMediumFull)
	ends(t, m, most, 0)
}

// Append takes just MaxMedium bytes at once, and not one more.
func TestFullByOneAppend(t *testing.T) {
	m := medium.New()
	appends(t, m, most+1, api.ErrMediumFull)
	appends(t, m, most, api.OK)
	appends(t, m, 1, api.ErrMediumFull)
	appends(t, m, 0, api.OK)
	if m.Size() != most {
		t.Fatal(m.Size())
	}
}

// Append takes just MaxMedium bytes by many, and not one more.
func TestFullByManyAppends(t *testing.T) {
	m := medium.New()
	for range 7 {
		appends(t, m, most/8, api.OK)
	}
	appends(t, m, most/8+1, api.ErrMediumFull)
	appends(t, m, most/8-1, api.OK)
	appends(t, m, 2, api.ErrMediumFull)
	if at, e := m.Append([]byte{5}); at != most-1 || e != api.OK {
		t.Fatal(at, e)
	}
	appends(t, m, 1, api.ErrMediumFull)
	ends(t, m, most, 5)
}

// That there is no room is told ahead of the death that it is armed with, though what would stay had room; such an Append does not count.
func TestFullAheadOfDeath(t *testing.T) {
	m, e := medium.Load(make([]byte, most-2))
	if e != api.OK {
		t.Fatal(e)
	}
	for _, keep := range []int{0, 1, 3, 9} {
		must(t, m.Arm(1, keep), api.OK)
		for range 3 {
			appends(t, m, 3, api.ErrMediumFull)
		}
	}
	must(t, m.Arm(2, 1), api.OK)
	appends(t, m, 3, api.ErrMediumFull)
	appends(t, m, 0, api.OK)
	appends(t, m, 3, api.ErrMediumFull)
	if m.Dead() {
		t.Fatal("it is dead")
	}
	if at, e := m.Append([]byte{6, 7}); at != 0 || e != api.ErrMediumDead || m.Size() != most-1 || !m.Dead() {
		t.Fatal(at, e, m.Size())
	}
	// Death is told ahead of the room.
	for _, n := range []int{0, 1, 2, 3, most + 1} {
		appends(t, m, n, api.ErrMediumDead)
	}
	if m.Size() != most-1 {
		t.Fatal(m.Size())
	}
	m.Revive()
	ends(t, m, most-1, 6)
	appends(t, m, 2, api.ErrMediumFull)
	must(t, m.Arm(1, 5), api.OK)
	if _, e := m.Append([]byte{8}); e != api.ErrMediumDead || m.Size() != most {
		t.Fatal(e, m.Size())
	}
	m.Revive()
	ends(t, m, most, 8)
	must(t, m.Arm(1, 5), api.OK)
	appends(t, m, 1, api.ErrMediumFull)
	appends(t, m, 0, api.ErrMediumDead)
	if m.Size() != most {
		t.Fatal(m.Size())
	}
}
