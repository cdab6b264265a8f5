/-
  Contract of slices.stableCmpFunc at fewer than 20 places.
-/
import Derived.Test.YtdjkilgcgkhcdaaDoorWk5
import Derived.Shelf.SlSortCmp.Insertion1
namespace Go.Proofs.YtdjkilgcgkhcdaaDoor
open Go.RowKit Go.Fl Go.Sort Go.Lib
/-- A place of a list, as the program holds it. -/
def encF {n : Nat} (i : Fin n) : Value := .int .i64 (i.val : Int)
def cfF (l : List Nat) (i j : Fin l.length) : Int := cfI l i.val j.val
theorem cell_other {α : Type} [Inhabited α] (enc : α → Value) (w : World) (blk off m : Nat) (dk : Array α) (os : Array Obj) (a : Addr) (hb : a.block ≠ blk) (hl : a.block < w.heap.size) :
    (sortWorld enc w blk off m dk os).cell? a = w.cell? a := by
  unfold sortWorld
  rw [cell?_grow _ _ _ (by rw [size_putRow]; exact hl)]
  exact World.cell?_of_block (by unfold putRow mapBlock; simp [Array.getElem?_modify, Ne.symm hb])
theorem cmp_lays (l : List Nat) [Inhabited (Fin l.length)] (bb blk off cap bP : Nat) (w : World) (hbb : bb ≠ bP) (hblk : blk ≠ bP) (hbb' : bb < w.heap.size) (hblk' : blk < w.heap.size)
    (hb : w.cell? ⟨bb, 0, none⟩ = some (.slice (some ⟨blk, off, none⟩) l.length cap)) (hF : FloatsAt w blk off l) :
    CmpLays1 Tryd.prog 33 #[.pointer (some ⟨bb, 0, none⟩)] encF (cfF l) bP 0 l.length w := fun m os dk _ x y => by
  refine (closure_any l x.val y.val x.isLt y.isLt bb blk off cap _ ?_ ⟨fun i hi => ?_, hF.lt⟩).mono fun e w' ⟨he, q, hq⟩ => ⟨he, q, #[], by rw [hq, grow_empty]⟩
  · rw [cell_other _ _ _ _ _ _ _ _ hbb hbb']; exact hb
  · rw [cell_other _ _ _ _ _ _ _ _ hblk hblk']; exact hF.cell i hi
set_option maxHeartbeats 800000 in
theorem stable_small (l : List Nat) [Inhabited (Fin l.length)] (hn : l.length < 20) (cap bP : Nat) (cb : Array Value) (d : Array (Fin l.length)) (w : World) (hd : d.size = l.length)
    (hcmp : CmpLays1 Tryd.prog 33 cb encF (cfF l) bP 0 l.length w) (hH : Holds encF w bP 0 d) (hblk : bP < w.heap.size) :
    Calls Tryd.prog 41 #[.slice (some ⟨bP, 0, none⟩) l.length cap, .int .i64 l.length, .func (.func 33) #[] cb] w fun e w' => e = .returned (.tuple #[]) ∧ SW encF w bP 0 (Sort.insertionSort (ltOf (cfF l)) d 0 d.size) w' := by
  have eg : ∀ args w, (callFunc 33 args).run Tryd.prog w = .ok (.enter 33 args) w := enters_of Tryd.func33 (by kernel_rfl) rfl
  have hi := Tryd.insertionSortCmpFunc_s encF (cfF l) 33 cb bP 0 cap 0 d.size d d w w eg (by rw [hd]; exact hcmp) ⟨fun _ => rfl, hH, hblk⟩ rfl (SW.start hH) (by omega) (Nat.le_refl _) (by omega)
  rw [hd, show ((0 : Nat) : Int) = 0 from rfl] at hi
  rw [hd]
  generalize Sort.insertionSort (ltOf (cfF l)) d 0 l.length = r at hi ⊢
  clear hH hcmp eg hblk hd
  generalize l.length = n at *
  have h20 : (n : Int) < 20 := by omega
  go_enter Tryd.func41, Tryd.ntmps41
  go_wp2
  go_loop [7, 8] (fun a b => a = .int .i64 0 ∧ b = .int .i64 20) (fun _ _ => 0)
  case atStart => exact ⟨rfl, rfl⟩
  case round =>
    obtain ⟨rfl, rfl⟩ := hrel
    go_wp2_with (go_at_call 46; ((with_reducible refine hi.mono ?_); rintro e w' ⟨rfl, hs⟩))
    go_loop [6, 7, 8, 9] (fun a _ _ _ => a = .int .i64 20) (fun _ _ _ _ => 0)
    case atStart => exact rfl
    case round =>
      have hr := hrel
      subst hr
      go_wp2
      go_end0
      exact ⟨rfl, by assumption⟩
end Go.Proofs.YtdjkilgcgkhcdaaDoor
