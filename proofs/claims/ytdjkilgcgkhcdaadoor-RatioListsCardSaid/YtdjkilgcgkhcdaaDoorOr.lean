/-
  Contract of ratio.Order at any length: all places, in the order of what stands there.
-/
import Derived.Test.YtdjkilgcgkhcdaaDoorSt9
import Derived.Test.YtdjkilgcgkhcdaaDoorWk7
namespace Go.Proofs.YtdjkilgcgkhcdaaDoor
open Go.RowKit Go.Fl Go.Sort Go.Lib
theorem cmp_q (l : List Nat) [Inhabited (Fin l.length)] (bb blk off cap bP : Nat) (w : World) (hbb : bb ≠ bP) (hblk : blk ≠ bP) (hbb' : bb < w.heap.size) (hblk' : blk < w.heap.size)
    (hb : w.cell? ⟨bb, 0, none⟩ = some (.slice (some ⟨blk, off, none⟩) l.length cap)) (hF : FloatsAt w blk off l) :
    CmpQ (.pointer (some ⟨bb, 0, none⟩)) (cfF l) bP w := fun dk W hs S x y => by
  obtain ⟨m, os, rfl⟩ := S
  refine closure_any l x.val y.val x.isLt y.isLt bb blk off cap _ ?_ ⟨fun i hi => ?_, hF.lt⟩
  · rw [cell_other _ _ _ _ _ _ _ _ hbb hbb']; exact hb
  · rw [cell_other _ _ _ _ _ _ _ _ hblk hblk']; exact hF.cell i hi
/-- What the stable sort leaves of a list's places. -/
structure Stable (l : List Nat) [Inhabited (Fin l.length)] (r : Array (Fin l.length)) : Prop where
  perm : PermIn 0 l.length (places l.length) r
  sorted : SortedIn (prF l) 0 l.length r
theorem Stable.size {l : List Nat} [Inhabited (Fin l.length)] {r : Array (Fin l.length)} (h : Stable l r) : r.size = l.length := by rw [h.perm.1, places_size]
set_option maxHeartbeats 400000 in
theorem sortStable_any (l : List Nat) [Inhabited (Fin l.length)] (cap bP : Nat) (p : Value) (w : World) (hsz : l.length < 4611686018427387904) (hcmp : CmpLays1 Tryd.prog 33 #[p] encF (cfF l) bP 0 l.length w) (hQ : CmpQ p (cfF l) bP w) (hH : Holds encF w bP 0 (places l.length)) (hblk : bP < w.heap.size) :
    Calls Tryd.prog 32 #[.slice (some ⟨bP, 0, none⟩) l.length cap, .func (.func 33) #[] #[p]] w fun e w' => e = .returned (.tuple #[]) ∧ ∃ r : Array (Fin l.length), Stable l r ∧ SW encF w bP 0 r w' := by
  have hs := stable_any l cap bP p w hsz hcmp hQ hH hblk
  have hs' : Calls Tryd.prog 41 #[.slice (some ⟨bP, 0, none⟩) l.length cap, .int .i64 l.length, .func (.func 33) #[] #[p]] w fun e w' => e = .returned (.tuple #[]) ∧ ∃ r : Array (Fin l.length), Stable l r ∧ SW encF w bP 0 r w' :=
    hs.mono fun e w' ⟨he, d', S, hp, hd⟩ => ⟨he, d', ⟨hp, hd⟩, S⟩
  have hz : (l.length : Int) ≤ 9223372036854775807 := by omega
  clear hs hcmp hQ hH hblk hsz
  go_enter Tryd.func32, Tryd.ntmps32
  go_wp2_with (go_at_call 41; ((with_reducible refine hs'.mono ?_); rintro e w' ⟨rfl, hs2⟩))
  go_end0
  exact ⟨rfl, by assumption⟩
set_option maxHeartbeats 800000 in
theorem order_q (l : List Nat) [Inhabited (Fin l.length)] (hl0 : 0 < l.length) (hl : l.length * 8 ≤ 140737488351232) (blk off cap : Nat) (w : World) (hblk : blk < w.heap.size) (hF : FloatsAt w blk off l) :
    Calls Tryd.prog 21 #[.slice (some ⟨blk, off, none⟩) l.length cap] w fun e w' => ∃ (r : Array (Fin l.length)) (bP : Nat), Stable l r ∧ Ordered l r w e w' bP := by
  have hmk := fun w => make_ints l.length hl w
  have HF := Lib.hid hF
  have HL := Lib.hid hl
  clear hF hl
  go_enter Tryd.func21, Tryd.ntmps21
  go_wp2
  have F0 : Hid (Filled w (w.heap.size + 1) l.length 0 w.heap.size (.slice (some ⟨blk, off, none⟩) l.length cap) w.heap.size ((w.alloc (.cells #[Value.slice (some ⟨blk, off, none⟩) l.length cap] 30)).alloc (.cells (madeCells #[.int .i64 0] l.length) 3))) := by
    refine ⟨fun i hi => ?_, fun i hi => ?_, ?_, ?_, ?_⟩
    · exact made_cell w _ _ _ _ hi
    · exact made_frozen w _ _ _ _
    · rw [World.cell?_alloc_old _ _ _ (by simp)]; simp
    · simp
    · exact ((Below.refl _ _).alloc (Nat.le_refl _) _).alloc (by simp) _
  generalize ((w.alloc (.cells #[Value.slice (some ⟨blk, off, none⟩) l.length cap] 30)).alloc (.cells (madeCells #[.int .i64 0] l.length) 3)) = w0 at F0 ⊢
  go_loopw [4, 10] (fun _ v wr => ∃ k : Nat, k ≤ l.length ∧ v = .int .i64 k ∧ Hid (Filled w (w.heap.size + 1) l.length k w.heap.size (.slice (some ⟨blk, off, none⟩) l.length cap) w.heap.size wr)) (fun _ v _ => l.length - (intOf v).toNat)
  case atStart => exact ⟨0, by omega, rfl, F0⟩
  case round =>
    obtain ⟨k, hk, rfl, HK⟩ := hrel
    have hz : (l.length : Int) ≤ 9223372036854775807 := by have := HL.out; omega
    by_cases hlt : k < l.length
    · have c := HK.out.cell k hlt
      have f := HK.out.frozen k hlt
      go_wp2
      go_roundw
      case rel => exact ⟨k + 1, by omega, by go_num, HK.out.next hlt (by omega) (by omega)⟩
      case measure => simp [intOf]; omega
    · have e : k = l.length := by omega
      subst e
      have hH : Hid (Holds encF wr (w.heap.size + 1) 0 (places l.length)) := fun j hj => by
        rw [places_size] at hj
        rw [places_at _ j hj, Nat.zero_add]
        exact ⟨by rw [HK.out.cell j hj, if_pos hj]; rfl, HK.out.frozen j hj⟩
      have hb := Lib.hid HK.out.below
      have hs := Lib.hid HK.out.size
      have hF' : Hid (FloatsAt wr blk off l) := ⟨fun i hi => by rw [hb.out.cell (p := ⟨blk, off + i, none⟩) hblk]; exact HF.out.cell i hi, HF.out.lt⟩
      have hC : Hid (CmpLays1 Tryd.prog 33 #[.pointer (some ⟨w.heap.size, 0, none⟩)] encF (cfF l) (w.heap.size + 1) 0 l.length wr) :=
        cmp_lays l w.heap.size blk off cap _ wr (by omega) (by omega) (by have := hs.out; omega) (by have := hs.out; omega) HK.out.box hF'.out
      have hQ : Hid (CmpQ (.pointer (some ⟨w.heap.size, 0, none⟩)) (cfF l) (w.heap.size + 1) wr) :=
        cmp_q l w.heap.size blk off cap _ wr (by omega) (by omega) (by have := hs.out; omega) (by have := hs.out; omega) HK.out.box hF'.out
      have hc := sortStable_any l l.length _ _ _ (by have := HL.out; omega) hC.out hQ.out hH.out hs.out
      go_wp2_with (go_at_call 32; ((with_reducible refine hc.mono ?_); rintro e w' ⟨rfl, r, hr, hs2⟩))
      go_ret
      exact ⟨r, _, hr, rfl, hs2.holds hs.out hH.out (by rw [hr.size, places_size]), by omega, Nat.lt_of_lt_of_le hs.out hs2.le, hb.out.trans (SW_below hs2 _ (by omega) (by have := hs.out; omega))⟩
end Go.Proofs.YtdjkilgcgkhcdaaDoor
