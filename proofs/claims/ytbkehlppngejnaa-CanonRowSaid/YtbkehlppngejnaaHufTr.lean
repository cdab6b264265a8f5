/-
  Maths of Huffman's trees, further: how deep symbols are, what fills all there is, what is the least, and how deep a tree can be.
-/
import Derived.Test.YtbkehlppngejnaaHufMt
namespace Go.Proofs.Ytbkehlppngejnaa.Hf
/-! ### symbols of a tree -/
def T.syms : T → List Nat
  | .leaf i _ => [i]
  | .node a b => a.syms ++ b.syms
/-- how often a symbol was put together -/
def T.dep : T → Nat → Nat
  | .leaf _ _, _ => 0
  | .node a b, i => a.dep i + b.dep i + (if i ∈ a.syms ++ b.syms then 1 else 0)
def T.ok (f : Nat → Nat) : T → Prop
  | .leaf i w => w = f i
  | .node a b => a.ok f ∧ b.ok f
theorem dep_none : ∀ (t : T) (i : Nat), i ∉ t.syms → t.dep i = 0
  | .leaf _ _, _, _ => rfl
  | .node a b, i, h => by
    have h1 : i ∉ a.syms := fun k => h (by simp [T.syms, k])
    have h2 : i ∉ b.syms := fun k => h (by simp [T.syms, k])
    show a.dep i + b.dep i + (if i ∈ a.syms ++ b.syms then 1 else 0) = 0
    rw [dep_none a i h1, dep_none b i h2, if_neg (show ¬ i ∈ a.syms ++ b.syms from h)]
theorem syms_some : ∀ (t : T), ∃ i, i ∈ t.syms
  | .leaf i _ => ⟨i, by simp [T.syms]⟩
  | .node a b => by obtain ⟨i, h⟩ := syms_some a; exact ⟨i, by simp [T.syms, h]⟩
theorem dep_left {a b : T} (hn : (a.syms ++ b.syms).Nodup) {i : Nat} (h : i ∈ a.syms) : (T.node a b).dep i = a.dep i + 1 := by
  show a.dep i + b.dep i + (if i ∈ a.syms ++ b.syms then 1 else 0) = _
  rw [dep_none b i (fun k => (List.nodup_append.1 hn).2.2 i h i k rfl), if_pos (by simp [h])]
theorem dep_right {a b : T} (hn : (a.syms ++ b.syms).Nodup) {i : Nat} (h : i ∈ b.syms) : (T.node a b).dep i = b.dep i + 1 := by
  show a.dep i + b.dep i + (if i ∈ a.syms ++ b.syms then 1 else 0) = _
  rw [dep_none a i (fun k => (List.nodup_append.1 hn).2.2 i k i h rfl), if_pos (by simp [h])]
  omega
/-- the codes of a tree fill all there is -/
theorem fills : ∀ (t : T) (M : Nat), t.syms.Nodup → (∀ i ∈ t.syms, t.dep i ≤ M) → sm (fun i => 2 ^ (M - t.dep i)) t.syms = 2 ^ M
  | .leaf i w, M, _, _ => by simp [T.syms, sm, T.dep]
  | .node a b, M, hn, hd => by
    have hn' : (a.syms ++ b.syms).Nodup := hn
    have n1 := (List.nodup_append.1 hn').1
    have n2 := (List.nodup_append.1 hn').2.1
    obtain ⟨j, hj⟩ := syms_some a
    have h1 : 1 ≤ M := by have := hd j (by simp [T.syms, hj]); rw [dep_left hn' hj] at this; omega
    have e1 : sm (fun i => 2 ^ (M - (T.node a b).dep i)) a.syms = sm (fun i => 2 ^ (M - 1 - a.dep i)) a.syms := sm_congr fun i hi => by
      rw [dep_left hn' hi]; congr 1; omega
    have e2 : sm (fun i => 2 ^ (M - (T.node a b).dep i)) b.syms = sm (fun i => 2 ^ (M - 1 - b.dep i)) b.syms := sm_congr fun i hi => by
      rw [dep_right hn' hi]; congr 1; omega
    show sm _ (a.syms ++ b.syms) = _
    rw [sm_append, e1, e2, fills a (M - 1) n1 (fun i hi => by have := hd i (by simp [T.syms, hi]); rw [dep_left hn' hi] at this; omega),
      fills b (M - 1) n2 (fun i hi => by have := hd i (by simp [T.syms, hi]); rw [dep_right hn' hi] at this; omega), ← Nat.two_mul, ← Nat.pow_succ']
    congr 1; omega
theorem weight_is {f : Nat → Nat} : ∀ (t : T), t.ok f → t.w = sm f t.syms
  | .leaf i w, h => by show w = f i + 0; rw [show w = f i from h]; rfl
  | .node a b, h => by show a.w + b.w = sm f (a.syms ++ b.syms); rw [sm_append, weight_is a h.1, weight_is b h.2]
theorem inner_is {f : Nat → Nat} : ∀ (t : T), t.ok f → t.syms.Nodup → t.inner = sm (fun i => f i * t.dep i) t.syms
  | .leaf i w, _, _ => by simp [T.syms, sm, T.dep, T.inner]
  | .node a b, h, hn => by
    have hn' : (a.syms ++ b.syms).Nodup := hn
    have e1 : sm (fun i => f i * (T.node a b).dep i) a.syms = sm (fun i => f i * a.dep i) a.syms + sm f a.syms := by
      rw [← sm_add]; exact sm_congr fun i hi => by rw [dep_left hn' hi, Nat.mul_succ]
    have e2 : sm (fun i => f i * (T.node a b).dep i) b.syms = sm (fun i => f i * b.dep i) b.syms + sm f b.syms := by
      rw [← sm_add]; exact sm_congr fun i hi => by rw [dep_right hn' hi, Nat.mul_succ]
    show a.inner + b.inner + (a.w + b.w) = sm _ (a.syms ++ b.syms)
    rw [sm_append, e1, e2, inner_is a h.1 (List.nodup_append.1 hn').1, inner_is b h.2 (List.nodup_append.1 hn').2.1, weight_is a h.1, weight_is b h.2]
    omega
/-! ### how deep a tree can be -/
def T.top : T → Nat
  | .leaf _ _ => 0
  | .node a b => max a.w b.w
def T.fine : T → Prop
  | .leaf _ w => 1 ≤ w
  | .node a b => a.fine ∧ b.fine ∧ a.top ≤ b.w ∧ b.top ≤ a.w
def T.h : T → Nat
  | .leaf _ _ => 0
  | .node a b => max a.h b.h + 1
def fb : Nat → Nat
  | 0 => 1
  | 1 => 2
  | n + 2 => fb n + fb (n + 1)
theorem fb_step (n : Nat) : fb (n + 1) ≤ fb (n + 2) := by
  show _ ≤ fb n + fb (n + 1); omega
theorem fb_mono {m n : Nat} (h : m ≤ n) : fb m ≤ fb n := by
  induction h with
  | refl => exact Nat.le_refl _
  | step _ ih =>
    rename_i k _
    refine Nat.le_trans ih ?_
    cases k with
    | zero => decide
    | succ k => exact fb_step k
theorem fine_w : ∀ (t : T), t.fine → 1 ≤ t.w
  | .leaf _ _, h => h
  | .node a b, h => by have := fine_w a h.1; show 1 ≤ a.w + b.w; omega
theorem fine_fb : ∀ (t : T), t.fine → fb t.h ≤ t.w ∧ (1 ≤ t.h → fb (t.h - 1) ≤ t.top)
  | .leaf _ w, h => ⟨h, fun k => absurd k (by simp [T.h])⟩
  | .node a b, hf => by
    obtain ⟨h1, h2, h3, h4⟩ := hf
    obtain ⟨a1, a2⟩ := fine_fb a h1
    obtain ⟨b1, b2⟩ := fine_fb b h2
    have wa := fine_w a h1
    have wb := fine_w b h2
    show fb (max a.h b.h + 1) ≤ a.w + b.w ∧ (_ → fb (max a.h b.h + 1 - 1) ≤ max a.w b.w)
    by_cases hab : b.h ≤ a.h
    · rw [Nat.max_eq_left hab]
      refine ⟨?_, fun _ => by rw [Nat.add_sub_cancel]; omega⟩
      cases hh : a.h with
      | zero => show 2 ≤ _; omega
      | succ k =>
        have := a2 (by omega)
        rw [hh] at this a1
        show fb k + fb (k + 1) ≤ _
        rw [Nat.add_sub_cancel] at this
        omega
    · rw [Nat.max_eq_right (by omega)]
      refine ⟨?_, fun _ => by rw [Nat.add_sub_cancel]; omega⟩
      cases hh : b.h with
      | zero => show 2 ≤ _; omega
      | succ k =>
        have := b2 (by omega)
        rw [hh] at this b1
        show fb k + fb (k + 1) ≤ _
        rw [Nat.add_sub_cancel] at this
        omega
theorem dep_h : ∀ (t : T), t.syms.Nodup → ∀ i, t.dep i ≤ t.h
  | .leaf _ _, _, _ => Nat.le_refl _
  | .node a b, hn, i => by
    have hn' : (a.syms ++ b.syms).Nodup := hn
    show _ ≤ max a.h b.h + 1
    by_cases ha : i ∈ a.syms
    · rw [dep_left hn' ha]; have := dep_h a (List.nodup_append.1 hn').1 i; omega
    · by_cases hb : i ∈ b.syms
      · rw [dep_right hn' hb]; have := dep_h b (List.nodup_append.1 hn').2.1 i; omega
      · rw [dep_none _ i (by simp [T.syms, ha, hb])]; omega
/-- of a forest on its way: each tree is fine, and none weighs less than a part of another one -/
def Fine (F : List T) : Prop := (∀ x ∈ F, x.fine) ∧ ∀ x ∈ F, ∀ y ∈ F, x.top ≤ y.w
theorem step_fine {F : List T} (h : Fine F) (hr : Rise F) : Fine (stepT F) := by
  unfold stepT
  split
  · rename_i a b r
    obtain ⟨h1, h2⟩ := List.pairwise_cons.1 hr
    obtain ⟨h3, h4⟩ := List.pairwise_cons.1 h2
    have hab := h1 b (by simp)
    have mem : ∀ x, x ∈ ins (.node a b) r → x = .node a b ∨ x ∈ r := fun x hx => List.mem_cons.1 ((ins_perm _ _).mem_iff.1 hx)
    refine ⟨fun x hx => ?_, fun x hx y hy => ?_⟩
    · rcases mem x hx with rfl | hx
      · exact ⟨h.1 a (by simp), h.1 b (by simp), h.2 a (by simp) b (by simp), h.2 b (by simp) a (by simp)⟩
      · exact h.1 x (by simp [hx])
    · rcases mem x hx with rfl | hx <;> rcases mem y hy with rfl | hy
      · show max a.w b.w ≤ a.w + b.w; omega
      · have := h3 y hy
        show max a.w b.w ≤ y.w; omega
      · have := h.2 x (by simp [hx]) a (by simp)
        show x.top ≤ a.w + b.w; omega
      · exact h.2 x (by simp [hx]) y (by simp [hy])
  · exact h
/-! ### forests -/
def syms (F : List T) : List Nat := F.flatMap T.syms
def dep (F : List T) (i : Nat) : Nat := sm (fun t => t.dep i) F
theorem syms_perm {F F' : List T} (h : F.Perm F') : (syms F).Perm (syms F') := h.flatMap_right _
theorem dep_perm {F F' : List T} (h : F.Perm F') (i : Nat) : dep F i = dep F' i := sm_perm _ h
theorem step_syms (F : List T) : (syms (stepT F)).Perm (syms F) := by
  unfold stepT
  split
  · rename_i a b r
    refine (syms_perm (ins_perm _ _)).trans ?_
    unfold syms
    simp [List.flatMap_cons, T.syms]
  · exact .refl _
theorem step_dep (a b : T) (r : List T) (i : Nat) : dep (stepT (a :: b :: r)) i = dep (a :: b :: r) i + (if i ∈ a.syms ++ b.syms then 1 else 0) := by
  show dep (ins (.node a b) r) i = _
  rw [dep_perm (ins_perm _ _)]
  simp only [dep, sm, T.dep]
  omega
theorem step_length (F : List T) : (stepT F).length = if 2 ≤ F.length then F.length - 1 else F.length := by
  match F with
  | [] => rfl
  | [_] => rfl
  | a :: b :: r => show (ins _ r).length = _; rw [ins_length]; simp
structure Grove (f : Nat → Nat) (F : List T) : Prop where
  rise : Rise F
  fine : Fine F
  ok : ∀ t ∈ F, t.ok f
  nodup : (syms F).Nodup
theorem Grove.step {f : Nat → Nat} {F : List T} (h : Grove f F) : Grove f (stepT F) := by
  refine ⟨step_rise h.rise, step_fine h.fine h.rise, ?_, (step_syms F).nodup_iff.2 h.nodup⟩
  unfold stepT
  split
  · rename_i a b r
    intro t ht
    rcases List.mem_cons.1 ((ins_perm _ _).mem_iff.1 ht) with rfl | ht
    · exact ⟨h.ok a (by simp), h.ok b (by simp)⟩
    · exact h.ok t (by simp [ht])
  · exact h.ok
theorem build_grove {f : Nat → Nat} : ∀ (k : Nat) (F : List T), Grove f F → Grove f (build k F) ∧ (syms (build k F)).Perm (syms F)
  | 0, F, h => ⟨h, .refl _⟩
  | k + 1, F, h => by
    obtain ⟨h1, h2⟩ := build_grove k (stepT F) h.step
    exact ⟨h1, h2.trans (step_syms F)⟩
theorem build_end : ∀ (k : Nat) (F : List T), F ≠ [] → F.length ≤ k + 1 → ∃ t, build k F = [t]
  | 0, F, h, hl => by
    match F, h, hl with
    | [t], _, _ => exact ⟨t, rfl⟩
  | k + 1, F, h, hl => by
    refine build_end k (stepT F) (fun e => ?_) ?_
    · have h1 := step_length F
      rw [e] at h1
      have h2 : 0 < F.length := List.length_pos_iff.2 h
      simp at h1
      split at h1 <;> omega
    · rw [step_length]; split <;> omega
end Go.Proofs.Ytbkehlppngejnaa.Hf
