/-
  Maths of Huffman's trees: what is built by putting the two least together costs no more than any lengths whose sum is not more than there is. No condition.
-/
import Derived.Test.YtbkehlppngejnaaRows
namespace Go.Proofs.Ytbkehlppngejnaa.Hf
/-! ### sums over lists -/
def sm {α : Type} (g : α → Nat) : List α → Nat
  | [] => 0
  | x :: l => g x + sm g l
section
variable {α β : Type}
theorem sm_append (g : α → Nat) (l r : List α) : sm g (l ++ r) = sm g l + sm g r := by
  induction l with
  | nil => simp [sm]
  | cons x l ih => simp only [List.cons_append, sm, ih]; omega
theorem sm_perm (g : α → Nat) {l r : List α} (h : l.Perm r) : sm g l = sm g r := by
  induction h with
  | nil => rfl
  | cons x _ ih => simp only [sm, ih]
  | swap x y l => simp only [sm]; omega
  | trans _ _ h1 h2 => exact h1.trans h2
theorem sm_map (g : β → Nat) (h : α → β) (l : List α) : sm g (l.map h) = sm (fun x => g (h x)) l := by
  induction l with
  | nil => rfl
  | cons x l ih => simp only [List.map_cons, sm, ih]
theorem sm_congr {g h : α → Nat} {l : List α} (e : ∀ x ∈ l, g x = h x) : sm g l = sm h l := by
  induction l with
  | nil => rfl
  | cons x l ih => simp only [sm]; rw [e x (by simp), ih fun y hy => e y (by simp [hy])]
theorem sm_le {g h : α → Nat} {l : List α} (e : ∀ x ∈ l, g x ≤ h x) : sm g l ≤ sm h l := by
  induction l with
  | nil => exact Nat.le_refl _
  | cons x l ih => simp only [sm]; have := e x (by simp); have := ih fun y hy => e y (by simp [hy]); omega
theorem sm_add (g h : α → Nat) (l : List α) : sm (fun x => g x + h x) l = sm g l + sm h l := by
  induction l with
  | nil => rfl
  | cons x l ih => simp only [sm, ih]; omega
theorem sm_mul (c : Nat) (g : α → Nat) (l : List α) : sm (fun x => c * g x) l = c * sm g l := by
  induction l with
  | nil => rfl
  | cons x l ih => simp only [sm, ih, Nat.mul_add]
theorem sm_const (c : Nat) (l : List α) : sm (fun _ => c) l = l.length * c := by
  induction l with
  | nil => simp [sm]
  | cons x l ih => simp only [sm, ih, List.length_cons, Nat.add_mul]; omega
theorem sm_mem {g : α → Nat} {l : List α} {x : α} (h : x ∈ l) : g x ≤ sm g l := by
  induction l with
  | nil => simp at h
  | cons y l ih =>
    simp only [sm]
    rcases List.mem_cons.1 h with rfl | h
    · omega
    · have := ih h; omega
/-- a list that is, sorted otherwise and mapped, another one -/
theorem perm_pick [DecidableEq α] (h : α → β) : ∀ (r : List β) (l : List α), (l.map h).Perm r → ∃ l' : List α, l'.Perm l ∧ l'.map h = r
  | [], l, hp => by
    have := hp.length_eq
    simp at this
    subst this
    exact ⟨[], .refl _, rfl⟩
  | y :: r, l, hp => by
    have hy : y ∈ l.map h := hp.mem_iff.2 (by simp)
    obtain ⟨x, hx, rfl⟩ := List.mem_map.1 hy
    have h1 : l.Perm (x :: l.erase x) := List.perm_cons_erase hx
    have h2 : ((l.erase x).map h).Perm r := List.Perm.cons_inv ((h1.map h).symm.trans hp)
    obtain ⟨l', h3, h4⟩ := perm_pick h r (l.erase x) h2
    exact ⟨x :: l', (h3.cons x).trans h1.symm, by rw [List.map_cons, h4]⟩
end
/-! ### lengths of codes: what they cost, and their sum -/
def cost (l : List (Nat × Nat)) : Nat := sm (fun p => p.1 * p.2) l
def kr (M : Nat) (l : List (Nat × Nat)) : Nat := sm (fun p => 2 ^ (M - p.2)) l
theorem swap_le {a w x y : Nat} (h : a ≤ w) (hx : x ≤ y) : a * y + w * x ≤ a * x + w * y := by
  obtain ⟨d, rfl⟩ : ∃ d, w = a + d := ⟨w - a, by omega⟩
  obtain ⟨e, rfl⟩ : ∃ e, y = x + e := ⟨y - x, by omega⟩
  simp only [Nat.mul_add, Nat.add_mul]
  omega
/-- the two least weights may have the two greatest lengths -/
theorem sift (a b : Nat) (hab : a ≤ b) : ∀ (rest : List (Nat × Nat)) (la lb : Nat), (∀ p ∈ rest, b ≤ p.1) →
    ∃ (la' lb' : Nat) (rest' : List (Nat × Nat)), rest'.map Prod.fst = rest.map Prod.fst ∧ lb' ≤ la' ∧ (∀ p ∈ rest', p.2 ≤ lb') ∧
      a * la' + b * lb' + cost rest' ≤ a * la + b * lb + cost rest ∧ (la' :: lb' :: rest'.map Prod.snd).Perm (la :: lb :: rest.map Prod.snd)
  | [], la, lb, _ => by
    by_cases h : lb ≤ la
    · exact ⟨la, lb, [], rfl, h, by simp, Nat.le_refl _, .refl _⟩
    · refine ⟨lb, la, [], rfl, by omega, by simp, ?_, .swap _ _ _⟩
      have := swap_le hab (show la ≤ lb by omega)
      omega
  | (w, l) :: rest, la, lb, hr => by
    obtain ⟨x, y, r, h1, h2, h3, h4, h5⟩ := sift a b hab rest la lb (fun p hp => hr p (by simp [hp]))
    have hw : b ≤ w := hr (w, l) (by simp)
    have perm0 : (x :: y :: l :: r.map Prod.snd).Perm (la :: lb :: l :: rest.map Prod.snd) := by
      have e1 : (x :: y :: l :: r.map Prod.snd).Perm (l :: x :: y :: r.map Prod.snd) := ((List.Perm.swap l y _).cons x).trans (List.Perm.swap l x _)
      have e2 : (la :: lb :: l :: rest.map Prod.snd).Perm (l :: la :: lb :: rest.map Prod.snd) := ((List.Perm.swap l lb _).cons la).trans (List.Perm.swap l la _)
      exact e1.trans ((h5.cons l).trans e2.symm)
    have hc : ∀ (q : List (Nat × Nat)) (u v : Nat), cost ((u, v) :: q) = u * v + cost q := fun q u v => rfl
    by_cases k1 : l ≤ y
    · refine ⟨x, y, (w, l) :: r, by simp [h1], h2, ?_, ?_, perm0⟩
      · intro p hp
        rcases List.mem_cons.1 hp with rfl | hp
        · exact k1
        · exact h3 p hp
      · rw [hc, hc]; omega
    · by_cases k2 : l ≤ x
      · refine ⟨x, l, (w, y) :: r, by simp [h1], k2, ?_, ?_, ?_⟩
        · intro p hp
          rcases List.mem_cons.1 hp with rfl | hp
          · simp; omega
          · have := h3 p hp; omega
        · rw [hc, hc]
          have := swap_le hw (show y ≤ l by omega)
          omega
        · exact ((List.Perm.swap y l _).cons x).trans perm0
      · refine ⟨l, x, (w, y) :: r, by simp [h1], by omega, ?_, ?_, ?_⟩
        · intro p hp
          rcases List.mem_cons.1 hp with rfl | hp
          · exact h2
          · have := h3 p hp; omega
        · rw [hc, hc]
          have e1 := swap_le (show a ≤ w by omega) (show x ≤ l by omega)
          have e2 := swap_le hw (show y ≤ x from h2)
          omega
        · have e1 : (l :: x :: y :: r.map Prod.snd).Perm (x :: y :: l :: r.map Prod.snd) := ((List.Perm.swap x l _)).trans ((List.Perm.swap y l _).cons x)
          exact e1.trans perm0
theorem kr_lens (M : Nat) (l : List (Nat × Nat)) : kr M l = sm (fun n => 2 ^ (M - n)) (l.map Prod.snd) := by
  unfold kr; rw [sm_map]
theorem kr_dvd {M b : Nat} (hb : b ≤ M) : ∀ (l : List (Nat × Nat)), (∀ p ∈ l, p.2 ≤ b) → ∃ o, kr M l = 2 ^ (M - b) * o
  | [], _ => ⟨0, rfl⟩
  | p :: l, h => by
    obtain ⟨o, ho⟩ := kr_dvd hb l fun q hq => h q (by simp [hq])
    have hp := h p (by simp)
    refine ⟨2 ^ (b - p.2) + o, ?_⟩
    show 2 ^ (M - p.2) + kr M l = _
    rw [ho, Nat.mul_add, ← Nat.pow_add, show M - b + (b - p.2) = M - p.2 by omega]
/-- the two greatest lengths may be put together to one that is shorter by one -/
theorem together {M la lb : Nat} {rest : List (Nat × Nat)} (h1 : lb ≤ la) (h2 : la ≤ M) (h3 : ∀ p ∈ rest, p.2 ≤ lb) (h : 2 ^ (M - la) + (2 ^ (M - lb) + kr M rest) ≤ 2 ^ M) :
    1 ≤ lb ∧ 2 ^ (M - (lb - 1)) + kr M rest ≤ 2 ^ M := by
  obtain ⟨o, ho⟩ := kr_dvd (by omega : lb ≤ M) rest h3
  have hp : 0 < 2 ^ (M - la) := Nat.two_pow_pos _
  have hlb : 1 ≤ lb := by
    refine Nat.one_le_iff_ne_zero.2 fun e => ?_
    subst e
    rw [Nat.sub_zero] at h
    omega
  refine ⟨hlb, ?_⟩
  have e1 : 2 ^ M = 2 ^ (M - lb) * 2 ^ lb := by rw [← Nat.pow_add]; congr 1; omega
  have e2 : 2 ^ (M - (lb - 1)) = 2 ^ (M - lb) * 2 := by rw [← Nat.pow_succ]; congr 1; omega
  rw [ho] at h ⊢
  rw [e1] at h ⊢
  rw [e2, ← Nat.mul_add]
  refine Nat.mul_le_mul_left _ ?_
  have h5 : 2 ^ (M - lb) * (1 + o) < 2 ^ (M - lb) * 2 ^ lb := by rw [Nat.mul_add, Nat.mul_one]; omega
  have := Nat.lt_of_mul_lt_mul_left h5
  omega
/-! ### trees -/
inductive T where
  | leaf (i w : Nat)
  | node (a b : T)

def T.w : T → Nat
  | .leaf _ w => w
  | .node a b => a.w + b.w
def T.n : T → Nat
  | .leaf i _ => i
  | .node a b => min a.n b.n
def T.inner : T → Nat
  | .leaf _ _ => 0
  | .node a b => a.inner + b.inner + (a.w + b.w)
/-- which of two trees is taken first -/
def T.lt (x y : T) : Prop := x.w < y.w ∨ x.w = y.w ∧ x.n < y.n
instance (x y : T) : Decidable (T.lt x y) := by unfold T.lt; infer_instance
def ins (t : T) : List T → List T
  | [] => [t]
  | x :: l => if T.lt t x then t :: x :: l else x :: ins t l
theorem ins_perm (t : T) : ∀ l, (ins t l).Perm (t :: l)
  | [] => .refl _
  | x :: l => by
    unfold ins
    split
    · exact .refl _
    · exact ((ins_perm t l).cons x).trans (.swap _ _ _)
def stepT : List T → List T
  | a :: b :: r => ins (.node a b) r
  | l => l
def build : Nat → List T → List T
  | 0, l => l
  | k + 1, l => build k (stepT l)
theorem build_one (k : Nat) (t : T) : build k [t] = [t] := by
  induction k with
  | zero => rfl
  | succ k ih => exact ih
theorem build_nil (k : Nat) : build k [] = [] := by
  induction k with
  | zero => rfl
  | succ k ih => exact ih
theorem ins_length (t : T) (l : List T) : (ins t l).length = l.length + 1 := by have := (ins_perm t l).length_eq; simpa using this
/-- sorted by weights -/
def Rise (l : List T) : Prop := l.Pairwise fun x y => x.w ≤ y.w
theorem ins_rise (t : T) : ∀ l, Rise l → Rise (ins t l)
  | [], _ => by unfold ins Rise; simp
  | x :: l, h => by
    obtain ⟨h1, h2⟩ := List.pairwise_cons.1 h
    unfold ins
    split
    · rename_i hlt
      have htx : t.w ≤ x.w := by rcases hlt with k | k <;> omega
      refine List.pairwise_cons.2 ⟨fun y hy => ?_, h⟩
      rcases List.mem_cons.1 hy with rfl | hy
      · exact htx
      · have := h1 y hy; omega
    · rename_i hlt
      have htx : x.w ≤ t.w := by unfold T.lt at hlt; omega
      refine List.pairwise_cons.2 ⟨fun y hy => ?_, ins_rise t l h2⟩
      rcases List.mem_cons.1 ((ins_perm t l).mem_iff.1 hy) with rfl | hy
      · exact htx
      · exact h1 y hy
theorem step_rise {l : List T} (h : Rise l) : Rise (stepT l) := by
  unfold stepT
  split
  · exact ins_rise _ _ (List.pairwise_cons.1 (List.pairwise_cons.1 h).2).2
  · exact h
/-- no lengths cost less -/
theorem least : ∀ (k : Nat) (F : List T), Rise F → ∀ (L : List (Nat × Nat)) (M : Nat), (L.map Prod.fst).Perm (F.map T.w) → (∀ p ∈ L, p.2 ≤ M) → kr M L ≤ 2 ^ M →
    sm T.inner (build k F) ≤ cost L + sm T.inner F
  | 0, F, _, L, M, _, _, _ => by unfold build; omega
  | k + 1, [], _, L, M, _, _, _ => by rw [build_nil]; simp [sm]
  | k + 1, [t], _, L, M, _, _, _ => by rw [build_one]; omega
  | k + 1, a :: b :: r, hs, L, M, hp, hm, hk => by
    obtain ⟨h1, h2⟩ := List.pairwise_cons.1 hs
    obtain ⟨h3, h4⟩ := List.pairwise_cons.1 h2
    obtain ⟨L1, hL1, hL2⟩ := perm_pick Prod.fst _ L hp
    obtain ⟨la, lb, rest, rfl, hrest⟩ : ∃ la lb rest, L1 = (a.w, la) :: (b.w, lb) :: rest ∧ rest.map Prod.fst = r.map T.w := by
      match L1, hL2 with
      | [], h => simp at h
      | [_], h => simp at h
      | (p1, p2) :: (q1, q2) :: rest, h =>
        simp only [List.map_cons, List.cons.injEq] at h
        obtain ⟨rfl, rfl, h⟩ := h
        exact ⟨p2, q2, rest, rfl, h⟩
    have hbr : ∀ p ∈ rest, b.w ≤ p.1 := fun p hp => by
      have : p.1 ∈ r.map T.w := by rw [← hrest]; exact List.mem_map.2 ⟨p, hp, rfl⟩
      obtain ⟨x, hx, e⟩ := List.mem_map.1 this
      rw [← e]; exact h3 x hx
    obtain ⟨x, y, rest', e1, e2, e3, e4, e5⟩ := sift a.w b.w (h1 b (by simp)) rest la lb hbr
    have hcost : cost L = a.w * la + b.w * lb + cost rest := by
      unfold cost; rw [← sm_perm _ hL1]; simp only [sm]; omega
    have hmx : ∀ n ∈ x :: y :: rest'.map Prod.snd, n ≤ M := fun n hn => by
      have hn2 := e5.mem_iff.1 hn
      have : n ∈ (((a.w, la) :: (b.w, lb) :: rest).map Prod.snd) := hn2
      obtain ⟨p, hp, rfl⟩ := List.mem_map.1 this
      exact hm p (hL1.mem_iff.1 hp)
    have hkr : 2 ^ (M - x) + (2 ^ (M - y) + kr M rest') ≤ 2 ^ M := by
      have q1 : kr M L = sm (fun n => 2 ^ (M - n)) (la :: lb :: rest.map Prod.snd) := by
        unfold kr; rw [← sm_perm _ hL1, ← kr, kr_lens]; rfl
      rw [q1, ← sm_perm _ e5] at hk
      simp only [sm] at hk
      rw [kr_lens]; exact hk
    obtain ⟨y1, hk2⟩ := together e2 (hmx x (by simp)) e3 hkr
    have ih := least k (ins (.node a b) r) (ins_rise _ _ h4) ((a.w + b.w, y - 1) :: rest') M (by
        rw [List.map_cons, e1, hrest]
        exact ((ins_perm (.node a b) r).map T.w).symm) (fun p hp => by
        rcases List.mem_cons.1 hp with rfl | hp
        · have := hmx y (by simp); simp; omega
        · exact hmx p.2 (by simp; exact .inr (.inr ⟨p.1, hp⟩))) (by
        show 2 ^ (M - (y - 1)) + kr M rest' ≤ _
        exact hk2)
    have hin : sm T.inner (ins (.node a b) r) = sm T.inner (a :: b :: r) + (a.w + b.w) := by
      rw [sm_perm _ (ins_perm _ _)]; simp only [sm, T.inner]; omega
    have hc2 : cost ((a.w + b.w, y - 1) :: rest') + (a.w + b.w) ≤ a.w * x + b.w * y + cost rest' := by
      show (a.w + b.w) * (y - 1) + cost rest' + (a.w + b.w) ≤ _
      have e6 : (a.w + b.w) * (y - 1) + (a.w + b.w) = (a.w + b.w) * y := by
        rw [← Nat.mul_succ]; congr 1; omega
      have e7 : a.w * y ≤ a.w * x := Nat.mul_le_mul_left _ e2
      have e8 : (a.w + b.w) * y = a.w * y + b.w * y := Nat.add_mul _ _ _
      omega
    show sm T.inner (build k (ins (.node a b) r)) ≤ _
    omega
end Go.Proofs.Ytbkehlppngejnaa.Hf
