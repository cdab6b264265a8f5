package bittext

import (
	"slices"
	"testing"
)

func TestBits(t *testing.T) {
	if b := Bits("10 0\n1"); !slices.Equal(b, []bool{true, false, false, true}) {
		t.Error(b)
	}
	if b := Bits(" "); len(b) != 0 {
		t.Error(b)
	}
}

func TestText(t *testing.T) {
	if s := Text([]bool{true, false, false, true}); s != "1001" {
		t.Error(s)
	}
	if s := Text(nil); s != "" {
		t.Error(s)
	}
}

func TestNumber(t *testing.T) {
	if s := Number(6, 5); s != "00110" {
		t.Error(s)
	}
	if s := Number(6, 2); s != "10" {
		t.Error(s)
	}
	if s := Number(6, 0); s != "" {
		t.Error(s)
	}
}
