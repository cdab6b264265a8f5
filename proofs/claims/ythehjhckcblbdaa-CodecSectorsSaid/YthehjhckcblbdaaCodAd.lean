/-
  What package codec calls, told over lists that lie: match.Split, match.Expand, bits.Pack, bits.Unpack.
-/
import Derived.Test.YthehjhckcblbdaaMatY
import Derived.Test.YthehjhckcblbdaaBitX
import Derived.Test.YthehjhckcblbdaaPacKd
import Derived.Test.YthehjhckcblbdaaPacKx
import Derived.Test.YthehjhckcblbdaaCodDo
namespace Go.Proofs.Ythehjhckcblbdaa.Pk
set_option maxRecDepth 100000
open Go.RowKit Go.Lib Mt Ma Mb
theorem split_code (s : ByteArray) (hs : s.size ≤ 2000) (w : World) : Calls Try.prog 17 #[.string s] w fun e w' => ∃ p cap, e = .returned (.slice p (splitS s).length cap) ∧ ToksLie w' p (splitS s) cap ∧ Below w.heap.size w w' :=
  (Ma.split_any s w hs).mono fun _ _ ⟨p, cap, h1, h2, h3⟩ => ⟨p, cap, h1, ⟨h2.1, h2.2.1, h2.2.2⟩, h3⟩
theorem expand_nil_code (p : Option Addr) (cap : Nat) (most : Int) (w : World) :
    Calls Try.prog 49 #[.slice p 0 cap, .int .i64 most] w fun e w' => e = .returned (told (some [])) ∧ Below w.heap.size w w' := by
  have HB := Lib.hid (Below.refl w.heap.size w)
  have htx := Ma.row_text (o := []) (World.ownsRow_nil w 0 5 1)
  go_enter Try.func49, Try.ntmps49
  go_wp2
  go_loopw [6, 11] (fun v n wr => v = .slice Option.none 0 0 ∧ n = .int .i64 0 ∧ wr = w) (fun _ _ _ => 0)
  case atStart => exact ⟨rfl, rfl, rfl⟩
  case round =>
    obtain ⟨rfl, rfl, rfl⟩ := hrel
    go_wp2
    go_ret2
    exact ⟨rfl, HB.out⟩
theorem expand_code (T : List Tok) (n : Nat) (hn : T.length = n) (hl : n ≤ 2000) (p : Option Addr) (cap : Nat) (most : Int) (w : World) (h : ToksLie w p T cap) :
    Calls Try.prog 49 #[.slice p n cap, .int .i64 most] w fun e w' => e = .returned (told (Mt.expand most [] T)) ∧ Below w.heap.size w w' := by
  subst hn
  rcases h.lies with rfl | ⟨blk, off, rfl, k⟩
  · exact expand_nil_code p cap most w
  · exact Ma.expand_any T blk off cap most hl w k
theorem pack_code (b : List Bool) (n : Nat) (hn : b.length = n) (hl : n ≤ 100000) (q : Option Addr) (d : Nat) (w : World) (h : FlagsLie w q b d) :
    Calls Try.prog 18 #[.slice q n d] w fun e w' => e = .returned (.string ⟨(packL b).toArray⟩) ∧ Below w.heap.size w w' := by
  subst hn
  rcases h.lies with rfl | ⟨blk, off, rfl, k⟩
  · exact pack_empty q d w
  · by_cases h0 : b = []
    · subst h0; exact pack_empty _ d w
    · exact pack_lit b blk off d hl h.len h.cap w ⟨k⟩ (World.block_lt_of_cell? w _ (k 0 (List.length_pos_iff.2 h0)))
theorem unpack_code (s : ByteArray) (hs : s.size ≤ 10000) (w : World) :
    Calls Try.prog 46 #[.string s] w fun e w' => ∃ q d, e = .returned (.slice q (unpackL s.data.toList).length d) ∧ FlagsLie w' q (unpackL s.data.toList) d ∧ Below w.heap.size w w' :=
  (unpack_any s hs w).mono fun _ _ ⟨g, c, h1, h2⟩ => ⟨_, c, h1, ⟨h2.cap.1, h2.cap.2, .inr ⟨g, 0, rfl, h2.at.cell⟩⟩, h2.below⟩
end Go.Proofs.Ythehjhckcblbdaa.Pk

