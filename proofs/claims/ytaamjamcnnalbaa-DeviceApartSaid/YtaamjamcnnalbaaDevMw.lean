/-
  Maths of disks: what a write, a flush, a death make of one. No condition.
-/
import Derived.Test.YtaamjamcnnalbaaDevDi
import Derived.Test.YtaamjamcnnalbaaDevFl
import Derived.Test.YtaamjamcnnalbaaDevRd
namespace Go.Proofs.Ytaamjamcnnalbaa.Dv
set_option maxRecDepth 100000
theorem mayD_iff {d : Dsk} : mayD d = true ↔ 1 ≤ d.kept.length ∧ d.kept.length ≤ 5000 ∧ d.cache.length ≤ 20000 ∧ -1 ≤ d.fuse ∧ (∀ t ∈ d.kept, t.size = 32) ∧ ∀ p ∈ d.cache, 0 ≤ p.1 ∧ p.1 < d.kept.length ∧ p.2.size = 32 := by
  unfold mayD
  rw [Bool.and_eq_true, Bool.and_eq_true, Bool.and_eq_true, Bool.and_eq_true, Bool.and_eq_true, decide_eq_true_eq, decide_eq_true_eq, decide_eq_true_eq, decide_eq_true_eq, List.all_eq_true, List.all_eq_true]
  constructor
  · rintro ⟨⟨h1, h2, h3, h4⟩, h5, h6⟩
    exact ⟨h1, h2, h3, h4, fun t ht => by simpa [textMay] using h5 t ht, fun p hp => by simpa [putMay] using h6 p hp⟩
  · rintro ⟨h1, h2, h3, h4, h5, h6⟩
    exact ⟨⟨h1, h2, h3, h4⟩, fun t ht => by simpa [textMay] using h5 t ht, fun p hp => by simpa [putMay] using h6 p hp⟩
theorem there_iff {d : Dsk} {a : Int} : there d a = true ↔ 0 ≤ a ∧ a < d.kept.length := by
  unfold there; rw [Bool.and_eq_true, decide_eq_true_eq, decide_eq_true_eq]
/-- what may be written -/
structure Good (d : Dsk) (a : Int) (s : ByteArray) : Prop where
  at' : there d a = true
  size : s.size = 32
  room : d.cache.length < 20000
theorem write_cases {d : Dsk} (hm : mayD d = true) (a : Int) (s : ByteArray) :
    (d.dead = true ∧ writeD d a s = (d, 90)) ∨ (d.dead = false ∧ ¬ Good d a s ∧ writeD d a s = (d, 1)) ∨
    (d.dead = false ∧ Good d a s ∧ d.fuse = 0 ∧ writeD d a s = (dieD { d with cache := d.cache ++ [(a, s)] } d.keep, 90)) ∨
    (d.dead = false ∧ Good d a s ∧ d.fuse ≠ 0 ∧ writeD d a s = ({ d with cache := d.cache ++ [(a, s)], fuse := if 0 < d.fuse then d.fuse - 1 else d.fuse }, 0)) := by
  unfold writeD
  rw [if_pos hm]
  cases hd : d.dead with
  | true => exact .inl ⟨rfl, if_pos rfl⟩
  | false =>
    rw [if_neg (by decide)]
    by_cases hb : there d a = false ∨ ¬ s.size = 32 ∨ 20000 ≤ d.cache.length
    · refine .inr (.inl ⟨rfl, fun g => ?_, by rw [if_pos hb]⟩)
      rcases hb with h | h | h
      · rw [g.at'] at h; cases h
      · exact h g.size
      · have := g.room; omega
    · have g : Good d a s := ⟨by cases h : there d a with | true => rfl | false => exact absurd (.inl h) hb, Decidable.byContradiction fun h => hb (.inr (.inl h)), by have : ¬ 20000 ≤ d.cache.length := fun h => hb (.inr (.inr h)); omega⟩
      rw [if_neg hb]
      by_cases hf : d.fuse = 0
      · exact .inr (.inr (.inl ⟨rfl, g, hf, if_pos hf⟩))
      · exact .inr (.inr (.inr ⟨rfl, g, hf, if_neg hf⟩))
theorem mayD_snoc {d : Dsk} (hm : mayD d = true) {a : Int} {s : ByteArray} (g : Good d a s) {f : Int} (hf : -1 ≤ f) {k : List Bool} {b : Bool} : mayD ⟨d.kept, d.cache ++ [(a, s)], f, k, b⟩ = true := by
  obtain ⟨h1, h2, h3, h4, h5, h6⟩ := mayD_iff.1 hm
  have hr := g.room
  have ht := there_iff.1 g.at'
  refine mayD_iff.2 ⟨h1, h2, by simp only [List.length_append, List.length_singleton]; omega, hf, h5, fun p hp => ?_⟩
  rcases List.mem_append.1 hp with hp | hp
  · exact h6 p hp
  · rw [List.mem_singleton.1 hp]; exact ⟨ht.1, ht.2, g.size⟩
theorem mayD_fuse {d : Dsk} (hm : mayD d = true) : -1 ≤ d.fuse := (mayD_iff.1 hm).2.2.2.1
theorem setAt_sizes {L : List ByteArray} (h : ∀ t ∈ L, t.size = 32) {s : ByteArray} (hs : s.size = 32) (a : Int) : ∀ t ∈ setAt L a s, t.size = 32 := fun t ht => by
  rcases List.mem_or_eq_of_mem_set ht with h' | h'
  · exact h t h'
  · rw [h']; exact hs
theorem applyC_sizes : ∀ (c : List (Int × ByteArray)) (L : List ByteArray), (∀ t ∈ L, t.size = 32) → (∀ p ∈ c, p.2.size = 32) → ∀ t ∈ applyC L c, t.size = 32
  | [], L, h, _ => h
  | p :: c, L, h, hc => by
    show ∀ t ∈ applyC (setAt L p.1 p.2) c, t.size = 32
    exact applyC_sizes c _ (setAt_sizes h (hc p (by simp)) _) (fun q hq => hc q (by simp [hq]))
theorem dieC_sizes : ∀ (c : List (Int × ByteArray)) (L : List ByteArray) (k : List Bool), (∀ t ∈ L, t.size = 32) → (∀ p ∈ c, p.2.size = 32) → ∀ t ∈ dieC L c k, t.size = 32
  | [], L, k, h, _ => by unfold dieC; exact h
  | p :: c, L, [], h, _ => by unfold dieC; exact h
  | p :: c, L, b :: k, h, hc => by
    unfold dieC
    refine dieC_sizes c _ k ?_ (fun q hq => hc q (by simp [hq]))
    cases b with
    | false => exact h
    | true => exact setAt_sizes h (hc p (by simp)) _
theorem dieD_eq {d : Dsk} (hm : mayD d = true) (k : List Bool) : dieD d k = ⟨dieC d.kept d.cache k, [], -1, [], true⟩ := if_pos hm
theorem reviveD_eq {d : Dsk} (hm : mayD d = true) : reviveD d = ⟨d.kept, [], -1, [], false⟩ := if_pos hm
theorem mayD_plain {L : List ByteArray} (h1 : 1 ≤ L.length) (h2 : L.length ≤ 5000) (h : ∀ t ∈ L, t.size = 32) (b : Bool) : mayD ⟨L, [], -1, [], b⟩ = true :=
  mayD_iff.2 ⟨h1, h2, Nat.zero_le _, Int.le_refl _, h, fun _ hp => nomatch hp⟩
theorem mayD_die {d : Dsk} (hm : mayD d = true) (k : List Bool) : mayD (dieD d k) = true := by
  obtain ⟨h1, h2, h3, h4, h5, h6⟩ := mayD_iff.1 hm
  rw [dieD_eq hm]
  exact mayD_plain (by rw [dieC_length]; exact h1) (by rw [dieC_length]; exact h2) (dieC_sizes _ _ _ h5 fun p hp => (h6 p hp).2.2) _
theorem flushD_eq {d : Dsk} (hm : mayD d = true) (hd : d.dead = false) : flushD d = ({ d with kept := applyC d.kept d.cache, cache := [] }, 0) := by
  unfold flushD
  rw [if_pos hm, hd, if_neg (by decide)]
theorem mayD_flush {d : Dsk} (hm : mayD d = true) (hd : d.dead = false) : mayD (flushD d).1 = true := by
  obtain ⟨h1, h2, h3, h4, h5, h6⟩ := mayD_iff.1 hm
  rw [flushD_eq hm hd]
  exact mayD_iff.2 ⟨by simp only; rw [applyC_length]; exact h1, by simp only; rw [applyC_length]; exact h2, Nat.zero_le _, h4, applyC_sizes _ _ h5 fun p hp => (h6 p hp).2.2, fun _ hp => nomatch hp⟩
theorem readD_dead {d : Dsk} (hm : mayD d = true) (hd : d.dead = true) (a : Int) : readD d a = (empty0, 90) := by
  unfold readD
  rw [if_pos hm, hd, if_pos rfl]
theorem readD_live {d : Dsk} (hm : mayD d = true) (hd : d.dead = false) {a : Int} (ha : there d a = true) : readD d a = (lastAt d.cache a (d.kept.getD a.toNat empty0), 0) := by
  unfold readD
  rw [if_pos hm, hd, if_neg (by decide), if_pos ha]
theorem readD_no {d : Dsk} (hm : mayD d = true) (hd : d.dead = false) {a : Int} (ha : there d a = false) : readD d a = (empty0, 1) := by
  unfold readD
  rw [if_pos hm, hd, if_neg (by decide), if_neg (by rw [ha]; decide)]
theorem setAt_get {L : List ByteArray} {a : Int} (h0 : 0 ≤ a) (h : a < L.length) (s e : ByteArray) : (setAt L a s).getD a.toNat e = s := by
  unfold setAt
  rw [List.getD_eq_getElem?_getD, List.getElem?_set, if_pos rfl, if_pos (by omega)]; rfl
/-- what an answer of a write tells -/
theorem write_arg {d : Dsk} (hm : mayD d = true) {a : Int} {s : ByteArray} (h : (writeD d a s).2 = 1) : (writeD d a s).1 = d := by
  rcases write_cases hm a s with ⟨_, e⟩ | ⟨_, _, e⟩ | ⟨_, _, _, e⟩ | ⟨_, _, _, e⟩ <;> rw [e] at h ⊢ <;> first | rfl | cases h
theorem write_dead {d : Dsk} (hm : mayD d = true) {a : Int} {s : ByteArray} (h : (writeD d a s).2 = 90) : (writeD d a s).1.dead = true ∧ (readD (writeD d a s).1 a).2 = 90 ∧ (writeD d a s).1.kept.length = d.kept.length := by
  rcases write_cases hm a s with ⟨hd, e⟩ | ⟨_, _, e⟩ | ⟨hd, g, hf, e⟩ | ⟨_, _, _, e⟩
  · rw [e]
    exact ⟨hd, by rw [readD_dead hm hd], rfl⟩
  · rw [e] at h; cases h
  · have hm2 := mayD_snoc hm g (f := d.fuse) (mayD_fuse hm) (k := d.keep) (b := d.dead)
    have e2 := dieD_eq hm2 d.keep
    have hm3 := mayD_die hm2 d.keep
    rw [e]
    refine ⟨by rw [e2], ?_, by rw [e2]; simp only; rw [dieC_length]⟩
    rw [readD_dead hm3 (by rw [e2])]
  · rw [e] at h; cases h
structure Wrote (d x : Dsk) (a : Int) (s : ByteArray) : Prop where
  read : readD x a = (s, 0)
  other : ∀ o, (readD x o).2 = (readD d o).2 ∧ (o = a ∨ (readD x o).1 = (readD d o).1)
  flush : (flushD x).2 = 0
  dead : readD (dieD (flushD x).1 []) a = (empty0, 90)
  kept : (readD (reviveD (dieD (flushD x).1 [])) a).1 = s
theorem write_ok {d : Dsk} (hm : mayD d = true) {a : Int} {s : ByteArray} (h1 : (writeD d a s).2 ≠ 1) (h2 : (writeD d a s).2 ≠ 90) : (writeD d a s).2 = 0 ∧ Wrote d (writeD d a s).1 a s := by
  rcases write_cases hm a s with ⟨_, e⟩ | ⟨_, _, e⟩ | ⟨_, _, _, e⟩ | ⟨hd, g, hf, e⟩
  · rw [e] at h2; exact absurd rfl h2
  · rw [e] at h1; exact absurd rfl h1
  · rw [e] at h2; exact absurd rfl h2
  · have hm2 : mayD (writeD d a s).1 = true := by
      rw [e]
      refine mayD_snoc hm g (f := if 0 < d.fuse then d.fuse - 1 else d.fuse) ?_
      have := mayD_fuse hm
      split <;> omega
    have hd2 : (writeD d a s).1.dead = false := by rw [e]; exact hd
    have hth : ∀ o, there (writeD d a s).1 o = there d o := fun o => by rw [e]; rfl
    have ht := there_iff.1 g.at'
    refine ⟨by rw [e], ?_, fun o => ?_, by rw [flushD_eq hm2 hd2], ?_, ?_⟩
    · rw [readD_live hm2 hd2 (by rw [hth]; exact g.at'), e]
      simp only
      rw [lastAt_snoc, if_pos rfl]
    · cases ho : there d o with
      | false => rw [readD_no hm2 hd2 (by rw [hth]; exact ho), readD_no hm hd ho]; exact ⟨rfl, .inr rfl⟩
      | true =>
        rw [readD_live hm2 hd2 (by rw [hth]; exact ho), readD_live hm hd ho, e]
        refine ⟨rfl, ?_⟩
        simp only
        rw [lastAt_snoc]
        by_cases hao : a = o
        · exact .inl hao.symm
        · rw [if_neg hao]; exact .inr rfl
    · have hm3 := mayD_flush hm2 hd2
      rw [readD_dead (mayD_die hm3 _) (by rw [dieD_eq hm3])]
    · have hm3 := mayD_flush hm2 hd2
      have hm4 := mayD_die hm3 []
      have e5 := reviveD_eq hm4
      have hk : (dieD (flushD (writeD d a s).1).1 []).kept = setAt (applyC d.kept d.cache) a s := by
        rw [dieD_eq hm3, flushD_eq hm2 hd2, e]
        simp only [dieC]
        rw [applyC_snoc]
      obtain ⟨j1, j2, _, _, j5, _⟩ := mayD_iff.1 hm4
      have hm5 : mayD (reviveD (dieD (flushD (writeD d a s).1).1 [])) = true := by rw [e5]; exact mayD_plain j1 j2 j5 _
      have hth5 : there (reviveD (dieD (flushD (writeD d a s).1).1 [])) a = true := by
        rw [there_iff, e5]
        simp only
        rw [hk, setAt_length, applyC_length]
        exact ht
      rw [readD_live hm5 (by rw [e5]) hth5, e5]
      simp only
      rw [hk]
      show (setAt (applyC d.kept d.cache) a s).getD a.toNat empty0 = s
      exact setAt_get ht.1 (by rw [applyC_length]; exact ht.2) _ _
/-! ### two writes -/
theorem setAt_comm (L : List ByteArray) {a b : Int} (ha : 0 ≤ a) (hb : 0 ≤ b) (h : a ≠ b) (s t : ByteArray) : setAt (setAt L a s) b t = setAt (setAt L b t) a s := by
  unfold setAt
  exact List.set_comm s t (by omega)
/-- a disk that lives and is not armed: what a write makes of it -/
theorem write_plain {d : Dsk} (hm : mayD d = true) (hd : d.dead = false) (hf : d.fuse < 0) (a : Int) (s : ByteArray) :
    (¬ Good d a s ∧ writeD d a s = (d, 1)) ∨ (Good d a s ∧ writeD d a s = ({ d with cache := d.cache ++ [(a, s)] }, 0)) := by
  rcases write_cases hm a s with ⟨h, _⟩ | ⟨_, g, e⟩ | ⟨_, _, h, _⟩ | ⟨_, g, _, e⟩
  · rw [hd] at h; cases h
  · exact .inl ⟨g, e⟩
  · omega
  · exact .inr ⟨g, by rw [e, if_neg (by omega)]⟩
theorem writes_apart {d : Dsk} (hm : mayD d = true) (hd : d.dead = false) (hf : d.fuse < 0) (hc : d.cache.length ≤ 200) {a b : Int} (hab : a ≠ b) (s t : ByteArray) :
    (writeD d a s).2 = (writeD (writeD d b t).1 a s).2 ∧ (writeD (writeD d a s).1 b t).2 = (writeD d b t).2 ∧
    (flushD (writeD (writeD d a s).1 b t).1).1 = (flushD (writeD (writeD d b t).1 a s).1).1 ∧
    ((writeD d a s).2 ≠ 0 ∨ (writeD (writeD d a s).1 b t).2 ≠ 0 ∨ readD (writeD (writeD (writeD d a s).1 b t).1 a t).1 a = (t, 0)) := by
  have one : ∀ (x : Int) (u : ByteArray), Good d x u → mayD { d with cache := d.cache ++ [(x, u)] } = true := fun x u g => mayD_snoc hm g (mayD_fuse hm)
  have gd : ∀ (x y : Int) (u v : ByteArray), Good { d with cache := d.cache ++ [(y, v)] } x u ↔ Good d x u := fun x y u v => ⟨fun g => ⟨g.at', g.size, by omega⟩, fun g => ⟨g.at', g.size, by simp only [List.length_append, List.length_singleton]; omega⟩⟩
  rcases write_plain hm hd hf a s with ⟨ga, ea⟩ | ⟨ga, ea⟩ <;> rcases write_plain hm hd hf b t with ⟨gb, eb⟩ | ⟨gb, eb⟩
  · rw [ea, eb]
    simp only
    rw [ea]
    exact ⟨rfl, trivial, rfl, .inl (by decide)⟩
  · rcases write_plain (one b t gb) hd hf a s with ⟨g2, e2⟩ | ⟨g2, e2⟩
    · rw [ea]
      simp only
      rw [eb]
      simp only at e2 ⊢
      rw [e2]
      exact ⟨rfl, trivial, rfl, .inl (by decide)⟩
    · exact absurd ((gd _ _ _ _).1 g2) ga
  · rcases write_plain (one a s ga) hd hf b t with ⟨g2, e2⟩ | ⟨g2, e2⟩
    · rw [eb]
      simp only
      rw [ea]
      simp only at e2 ⊢
      rw [e2]
      exact ⟨trivial, rfl, rfl, .inr (.inl (by show (1 : Int) ≠ 0; decide))⟩
    · exact absurd ((gd _ _ _ _).1 g2) gb
  · rcases write_plain (one a s ga) hd hf b t with ⟨g2, e2⟩ | ⟨g2, e2⟩
    · exact absurd ((gd _ _ _ _).2 gb) g2
    · rcases write_plain (one b t gb) hd hf a s with ⟨g3, e3⟩ | ⟨g3, e3⟩
      · exact absurd ((gd _ _ _ _).2 ga) g3
      · have hm2 := mayD_snoc (one a s ga) g2 (f := d.fuse) (mayD_fuse hm) (k := d.keep) (b := d.dead)
        have hm3 := mayD_snoc (one b t gb) g3 (f := d.fuse) (mayD_fuse hm) (k := d.keep) (b := d.dead)
        have ta := there_iff.1 ga.at'
        have tb := there_iff.1 gb.at'
        rw [ea, eb]
        simp only
        rw [e2, e3]
        refine ⟨rfl, rfl, ?_, .inr (.inr ?_)⟩
        · have f2 := flushD_eq hm2 hd
          have f3 := flushD_eq hm3 hd
          simp only at f2 f3 ⊢
          rw [f2, f3]
          simp only
          rw [applyC_snoc, applyC_snoc, applyC_snoc, applyC_snoc, setAt_comm _ ta.1 tb.1 hab]
        · have g4 : Good ⟨d.kept, (d.cache ++ [(a, s)]) ++ [(b, t)], d.fuse, d.keep, d.dead⟩ a t := ⟨ga.at', gb.size, by simp only [List.length_append, List.length_singleton]; omega⟩
          rcases write_plain hm2 hd hf a t with ⟨g5, _⟩ | ⟨_, e5⟩
          · exact absurd g4 g5
          · have hm4 := mayD_snoc hm2 g4 (f := d.fuse) (mayD_fuse hm) (k := d.keep) (b := d.dead)
            simp only at e5 ⊢
            rw [e5]
            have := readD_live hm4 hd (a := a) ga.at'
            simp only at this ⊢
            rw [this, lastAt_snoc, if_pos rfl]
end Go.Proofs.Ytaamjamcnnalbaa.Dv

