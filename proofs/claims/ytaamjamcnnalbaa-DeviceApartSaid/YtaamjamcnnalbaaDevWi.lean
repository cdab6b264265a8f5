/-
  The document's Zeros, with, New.
-/
import Derived.Test.YtaamjamcnnalbaaDevSb
import Derived.Laws.AppendOwnNone
namespace Go.Proofs.Ytaamjamcnnalbaa.Dv
set_option maxRecDepth 100000
open Go.RowKit Go.Lib
theorem infoStr : (Try.prog.info? 9).map (fun i => (i.zero, i.size, i.bytes)) = some (some (.string ⟨#[]⟩), 1, 16) := by kernel_rfl
theorem infoByte : (Try.prog.info? 5).map (fun i => (i.zero, i.size, i.bytes)) = some (some (.int .u8 0), 1, 1) := by kernel_rfl
theorem own_later {B e s n : Nat} {w w' : World} {v : Value} {xs : List Value} (h : w.ownsRow B e s v n xs) (hb : Below w.heap.size w w') : w'.ownsRow B e s v n xs :=
  h.kept (row := Option.none) ⟨hb.os, hb.tape, hb.output, hb.size, fun k hk _ => hb.block k hk⟩ (Classical.em _)
theorem flat_str_set (L : List ByteArray) (i : Nat) (s : ByteArray) : (flat strS L).set i (.string s) = flat strS (L.set i s) := by
  have e : ∀ L : List ByteArray, flat strS L = L.map Value.string := fun L => by
    induction L with
    | nil => rfl
    | cons x L ih => unfold flat at *; rw [List.flatMap_cons, ih]; rfl
  rw [e, e, List.map_set]
theorem flat_str_len (L : List ByteArray) : (flat strS L).length = L.length := by rw [flat_length]; exact Nat.mul_one _
theorem zeros_doc (w : World) : Calls Try.prog 29 #[] w fun e w' => e = .returned (.string zero32) ∧ Below w.heap.size w w' := by
  obtain ⟨i0, hi0, hz0, hz1, hz2⟩ := info_parts infoByte
  have hmk := run_make (P := Try.prog) w 65 5 i0 (.int .u8 0) Try.underlying65 hi0 hz0 .i64 .i64 32 32 (by omega) (by omega) (by rw [hz2]; omega) (by omega)
  rw [hz1] at hmk
  replace hmk : (Instr.makeSlice 65 (.int .i64 32) (.int .i64 32)).run Try.prog w = .ok (.slice (some ⟨w.heap.size, 0, none⟩) 32 32) (w.alloc (.cells (madeCells #[.int .u8 0] 32) 5)) := hmk
  have hcv : (convert 65 9 (.slice (some ⟨w.heap.size, 0, none⟩) 32 32)).run Try.prog (w.alloc (.cells (madeCells #[.int .u8 0] 32) 5)) = .ok (.string zero32) (w.alloc (.cells (madeCells #[.int .u8 0] 32) 5)) := by
    refine run_convert_bytes_back _ 65 9 5 ⟨w.heap.size, 0, none⟩ 32 (List.replicate 32 0) Try.underlying65 Try.underlying5 Try.underlying9 (fun j hj => ?_)
    rw [List.getElem_replicate]
    rw [List.length_replicate] at hj
    rw [Addr.add_lit, Nat.zero_add, cell_of_row _ _ j _ 5 (0, 0) (heap_alloc_new w _)]
    simp [madeCells, hj, Nat.mod_one]
  generalize zero32 = z at *
  clear hi0 hz0 hz1 hz2
  go_enter Try.func29, Try.ntmps29
  go_wp2
  go_ret
  exact ⟨rfl, (Below.refl _ _).alloc (Nat.le_refl _) _⟩
set_option maxHeartbeats 2000000 in
theorem with_doc (L : List ByteArray) (n : Nat) (hn : L.length = n) (hl : n ≤ 5000) (p : Option Addr) (c a : Nat) (ha : a < n) (s : ByteArray) (w : World) (h : SLie strS w p L c) :
    Calls Try.prog 37 #[.slice p n c, .int .i64 a, .string s] w fun e w' => ∃ q d, e = .returned (.slice q n d) ∧ w'.ownsRow w.heap.size 9 1 (.slice q n d) n (flat strS (L.set a s)) ∧ Below w.heap.size w w' := by
  obtain ⟨i0, hi0, hz0, hz1, hz2⟩ := info_parts infoStr
  obtain ⟨blk, off, rfl, _⟩ := h.at (i := a) (by rw [hn]; exact ha)
  have h2 := h.below ((Below.refl w.heap.size w).alloc (Nat.le_refl _) (.cells #[] 9))
  have o1 : (w.alloc (.cells #[] 9)).ownsRow w.heap.size 9 1 (.slice (some ⟨w.heap.size, 0, none⟩) 0 0) 0 [] := World.ownsRow_made (base := w.heap.size) (e := 9) (size := 1) w #[] 0 (Nat.le_refl _) (by decide) rfl
  have o2 := slie_news h2
  have o3 : w.heap.size ≤ (w.alloc (.cells #[] 9)).heap.size := by simp
  have hfl : (flat strS L).length = n * 1 := by rw [flat_str_len, hn, Nat.mul_one]
  have HB := Lib.hid ((Below.refl w.heap.size w).alloc (Nat.le_refl _) (.cells #[] 9))
  have za : (a : Int) < n := by omega
  have HS := Lib.hid (flat_str_set L a s)
  have hz63 : 0 + n ≤ maxLen := by unfold maxLen; omega
  clear h h2
  go_enter Try.func37, Try.ntmps37
  go_wp2_with (first
    | (at_builtin; refine wpList_append_own _ rfl _ _ 22 rfl w.heap.size 9 i0 (.string ⟨#[]⟩) 1 16 Try.underlying22 hi0 hz0 hz1 hz2 rfl (by decide) _ 0 [] rfl o1 ⟨blk, off, none⟩ n c (flat strS L) rfl hfl o2 (flat_cell L) hz63 (by omega) o3 ?_)
    | go_in)
  intro v1 w3 own1 gr1 nn1
  replace own1 : w3.ownsRow w.heap.size 9 1 v1 n (flat strS L) := by simpa using own1
  have hv1 : ¬ v1 = .slice none 0 0 := nn1
  obtain ⟨g, d, rfl⟩ := own_some own1 hv1
  have B3 := HB.out.grown gr1 o3 (fun b hb => by cases hb; exact Nat.le_refl _)
  have own2 := (own1.stored a (.string s)).1
  rw [HS.out] at own2
  have hg := (own1.lt g rfl).1
  have f1 := own1.frozenAt a
  have cl : ∃ z, w3.cell? ⟨g, a, none⟩ = some (.string z) := by
    refine ⟨L[a], ?_⟩
    rw [own1.cellAt a (by omega)]
    have := flat_get (S := strS) L a (by omega) 0 _ rfl
    rw [show a * strS.size + 0 = a by show a * 1 + 0 = a; omega] at this
    exact this
  obtain ⟨z, cl⟩ := cl
  have zd : (n : Int) ≤ d := by
    rcases own1.2 with ⟨h1, _⟩ | ⟨g', cap', cur, h1, _, _, h2, _⟩
    · cases h1
    · cases h1; omega
  have B4 := Lib.hid (B3.setCell (p := ⟨g, a, none⟩) hg (.string s))
  have O2 := Lib.hid own2
  clear own1 own2 gr1 nn1 hv1 B3 o1 o2 o3 HB HS hg
  go_wp2
  go_ret
  exact ⟨_, d, rfl, O2.out, B4.out⟩
end Go.Proofs.Ytaamjamcnnalbaa.Dv

