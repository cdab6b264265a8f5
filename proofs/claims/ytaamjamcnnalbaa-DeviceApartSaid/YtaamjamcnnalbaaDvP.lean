/-
  Texts that stand one behind the other, and what is cut out of them; rows of the call's own of unlike types; a builder that is kept.
-/
import Derived.Test.YtaamjamcnnalbaaDvH
import Derived.Test.YtaamjamcnnalbaaDvB
import Derived.Test.YtaamjamcnnalbaaRegT
namespace Go.Proofs.Ytaamjamcnnalbaa.Dv
set_option maxRecDepth 100000
open Go.RowKit Go.Lib
def cat (L : List ByteArray) : List UInt8 := L.flatMap fun s => s.data.toList
theorem cat_append (L M : List ByteArray) : cat (L ++ M) = cat L ++ cat M := by unfold cat; rw [List.flatMap_append]
theorem cat_one (s : ByteArray) : cat [s] = s.data.toList := by unfold cat; simp
theorem cat_len (L : List ByteArray) (h : ∀ s ∈ L, s.size = 32) : (cat L).length = L.length * 32 := by
  induction L with
  | nil => rfl
  | cons x L ih =>
    have h1 := ih fun s hs => h s (List.mem_cons_of_mem _ hs)
    have h2 : x.data.toList.length = 32 := by have := h x (List.mem_cons_self ..); simpa using this
    unfold cat at *
    rw [List.flatMap_cons, List.length_append, h1, h2, List.length_cons]; omega
theorem cat_drop (L : List ByteArray) (h : ∀ s ∈ L, s.size = 32) (i : Nat) (hi : i < L.length) : ((cat L).drop (i * 32)).take 32 = L[i].data.toList := by
  induction L generalizing i with
  | nil => simp at hi
  | cons x L ih =>
    have h2 : x.data.toList.length = 32 := by have := h x (List.mem_cons_self ..); simpa using this
    have e : cat (x :: L) = x.data.toList ++ cat L := by unfold cat; rw [List.flatMap_cons]
    rw [e]
    cases i with
    | zero =>
      rw [Nat.zero_mul, List.drop_zero, List.take_append_of_le_length (by omega), List.take_of_length_le (by omega)]; rfl
    | succ i =>
      rw [List.drop_append, List.drop_of_length_le (by omega), List.nil_append, h2, show (i + 1) * 32 - 32 = i * 32 by omega, ih (fun s hs => h s (List.mem_cons_of_mem _ hs)) i (by simpa using hi)]; rfl
theorem cut_list (s : ByteArray) (i : Nat) : (cut s i).data.toList = (s.data.toList.drop (i * 32)).take 32 := by
  unfold cut
  rw [ByteArray.data_extract, ByteArray.data_extract, Array.toList_extract, Array.toList_extract]
  have hl : s.size = s.data.toList.length := by simp
  rw [List.extract_eq_take_drop, List.extract_eq_take_drop, List.drop_zero, hl, Nat.sub_zero]
  rw [List.take_of_length_le (l := List.drop (i * 32) s.data.toList) (by rw [List.length_drop]; exact Nat.le_refl _)]
theorem cut_cat (L : List ByteArray) (h : ∀ s ∈ L, s.size = 32) (i : Nat) (hi : i < L.length) : cut ⟨(cat L).toArray⟩ i = L[i] := by
  apply ByteArray.ext
  apply Array.ext'
  rw [cut_list, ← cat_drop L h i hi]
theorem cat_take (L : List ByteArray) (i : Nat) (hi : i < L.length) : cat (L.take (i + 1)) = cat (L.take i) ++ L[i].data.toList := by
  rw [List.take_succ_eq_append_getElem hi, cat_append, cat_one]
/-! ### rows of unlike types -/
theorem own_ne {w : World} {B e s n : Nat} {v : Value} {xs : List Value} (h : w.ownsRow B e s v n xs) {g : Nat} {cs : Array Value} {e' : TypeId} {fr : Nat × Nat} (hg : w.heap[g]? = some (.cells cs e' fr)) (he : e ≠ e') : v.ownBlock ≠ some g := by
  rcases h.2 with ⟨rfl, _⟩ | ⟨g', cap, cur, rfl, _, hg', _⟩
  · simp [Value.ownBlock]
  · intro k
    simp only [Value.ownBlock, Option.some.injEq] at k
    subst k
    rw [hg'] at hg
    cases hg
    exact he rfl
theorem own_set {w : World} {B e s n : Nat} {v : Value} {xs : List Value} (h : w.ownsRow B e s v n xs) {g : Nat} (o : Nat) (x : Value) (hne : v.ownBlock ≠ some g) : (w.setCell ⟨g, o, none⟩ x).ownsRow B e s v n xs :=
  h.kept (row := some g) ⟨rfl, rfl, rfl, by simp [World.setCell], fun k _ hk => heap_setCell_other w ⟨g, o, none⟩ k x (fun e => hk (by rw [e]))⟩ (.inr hne)
theorem own_low {w : World} {B C e s n : Nat} {v : Value} {xs : List Value} (h : w.ownsRow B e s v n xs) (hc : C ≤ B) : w.ownsRow C e s v n xs := by
  refine ⟨h.1, ?_⟩
  rcases h.2 with k | ⟨g, cap, cur, k1, k2, k3⟩
  · exact .inl k
  · exact .inr ⟨g, cap, cur, k1, by omega, k3⟩
theorem own_others {w w' : World} {B e s n : Nat} {v : Value} {xs : List Value} {t : TypeId} {b : Nat} {cs : Array Value} {tb : TypeId} {fr : Nat × Nat} (h : w.ownsRow B e s v n xs) (ho : Lib.OthersKept t (some b) w w') (hb : w.heap[b]? = some (.cells cs tb fr)) (h1 : e ≠ tb) (h2 : e ≠ t) : w'.ownsRow B e s v n xs := by
  refine ⟨h.1, ?_⟩
  rcases h.2 with k | ⟨g, cap, cur, k1, k2, k3, k4⟩
  · exact .inl k
  · refine .inr ⟨g, cap, cur, k1, k2, ho g _ k3 (fun k => ?_) (fun c fz k => ?_), k4⟩
    · have e1 : g = b := by simpa using k
      subst e1
      rw [k3] at hb
      cases hb
      exact h1 rfl
    · cases k; exact h2 rfl
/-! ### a builder -/
theorem Bld.block {B b : Nat} {l : List UInt8} {w : World} (h : Bld B b l w) : ∃ p v, w.heap[b]? = some (.cells #[p, v] 71 (0, 0)) := by
  rcases h with ⟨_, v, h, _⟩ | ⟨_, v, h, _⟩
  · exact ⟨_, v, h⟩
  · exact ⟨_, v, h⟩
theorem rowF_kept {w w' : World} {B e s n : Nat} {v : Value} {xs : List Value} (h : w.ownsRowF B e s v n xs) (hh : ∀ g, v.ownBlock = some g → w'.heap[g]? = w.heap[g]?) : w'.ownsRowF B e s v n xs := by
  refine ⟨h.1, ?_⟩
  rcases h.2 with k | ⟨g, cap, cur, fz, rfl, k2, k3, k4⟩
  · exact .inl k
  · exact .inr ⟨g, cap, cur, fz, rfl, k2, (hh g rfl).trans k3, k4⟩
theorem Bld.kept {B b : Nat} {l : List UInt8} {w w' : World} (h : Bld B b l w) (h1 : w'.heap[b]? = w.heap[b]?) (h2 : ∀ (g : Nat) (c : Array Value) (fz : Nat × Nat), w.heap[g]? = some (Obj.cells c 5 fz) → w'.heap[g]? = w.heap[g]?) : Bld B b l w' := by
  have key : ∀ p, Lib.BuilderAtF 71 5 B b p (Lib.byteCells l) w → Lib.BuilderAtF 71 5 B b p (Lib.byteCells l) w' := fun p ⟨hB, v, hb, hown, hne⟩ =>
    ⟨hB, v, h1.trans hb, rowF_kept hown fun g hg => by obtain ⟨c, fz, k⟩ := Lib.ownsRowF_kind hown g hg; exact h2 g c fz k, hne⟩
  exact h.imp (key _) (key _)
theorem Bld.below {B b : Nat} {l : List UInt8} {w w' : World} (h : Bld B b l w) (hb : Below w.heap.size w w') : Bld B b l w' := by
  obtain ⟨p, v, k⟩ := h.block
  refine Bld.kept h (hb.block b (Array.getElem?_eq_some_iff.1 k).1) fun g c fz hg => hb.block g (Array.getElem?_eq_some_iff.1 hg).1
theorem Bld.set {B b : Nat} {l : List UInt8} {w : World} (h : Bld B b l w) {g : Nat} {cs : Array Value} {e : TypeId} {fr : Nat × Nat} (hg : w.heap[g]? = some (.cells cs e fr)) (h1 : e ≠ 71) (h2 : e ≠ 5) (o : Nat) (x : Value) : Bld B b l (w.setCell ⟨g, o, none⟩ x) := by
  obtain ⟨p, v, k⟩ := h.block
  refine Bld.kept h (heap_setCell_other w ⟨g, o, none⟩ b x fun e' => ?_) fun g' c fz hg' => heap_setCell_other w ⟨g, o, none⟩ g' x fun e' => ?_
  · have e2 : b = g := e'
    subst e2; rw [hg] at k; cases k; exact h1 rfl
  · have e2 : g' = g := e'
    subst e2; rw [hg] at hg'; cases hg'; exact h2 rfl
theorem OthersKept.cell {t : TypeId} {b : Nat} {w w' : World} (ho : Lib.OthersKept t (some b) w w') {g : Nat} {cs : Array Value} {e : TypeId} {fr : Nat × Nat} (hg : w.heap[g]? = some (.cells cs e fr)) (h1 : g ≠ b) (h2 : e ≠ t) : w'.heap[g]? = some (.cells cs e fr) :=
  ho g _ hg (fun k => h1 (by simpa using k)) (fun c fz k => by cases k; exact h2 rfl)
end Go.Proofs.Ytaamjamcnnalbaa.Dv
