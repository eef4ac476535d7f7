/-
  Two forms behind one another are a form, plain. Its condition: together no more than a thousand signs.
-/
import Derived.Test.YtakfpfnaogdmlaaDoorFr
namespace Go.Proofs.YtakfpfnaogdmlaaDoor
open Go.RowKit Sch
theorem head_not {y : List UInt8} (h : headDig y = false) (k : Nat) : (y.take k).takeWhile isDig = [] := by
  cases y with
  | nil => simp
  | cons c y =>
    cases k with
    | zero => simp
    | succ k =>
      rw [List.take_succ_cons, List.takeWhile_cons]
      have hc : isDig c = false := h
      simp [hc]
theorem digs_of {d y : List UInt8} (hd : ∀ c ∈ d, isDig c = true) (hl : d.length ≤ 5) (hy : headDig y = false) : digs (d ++ y) = d := by
  unfold digs
  rw [List.take_append, List.take_of_length_le hl, List.takeWhile_append_of_pos hd, head_not hy, List.append_nil]
theorem headDig_app {r x : List UInt8} (h : headDig r = false) (hx : r ≠ [] ∨ headDig x = false) : headDig (r ++ x) = false := by
  cases r with
  | nil => rcases hx with hx | hx
           · exact absurd rfl hx
           · exact hx
  | cons c r => exact h
theorem num6_ext {t r x : List UInt8} {k : Nat} (h : num6 t = some (k, r)) (hx : r ≠ [] ∨ headDig x = false) : num6 (t ++ x) = some (k, r ++ x) := by
  obtain ⟨h5, hr⟩ := num6_of h
  unfold num5 at h5
  split at h5
  · cases h5
  · rename_i hn
    simp only [Option.some.injEq, Prod.mk.injEq] at h5
    obtain ⟨hk, hr2⟩ := h5
    have hpre : digs t = t.take (digs t).length := by
      unfold digs
      have h1 := List.takeWhile_prefix (p := isDig) (l := t.take 5)
      have h2 := List.prefix_iff_eq_take.1 (h1.trans (List.take_prefix 5 t))
      exact h2
    have ht : digs t ++ r = t := by
      rw [← hr2]
      conv => lhs; lhs; rw [hpre]
      exact List.take_append_drop _ _
    have hall : ∀ c ∈ digs t, isDig c = true := fun c hc => by
      unfold digs at hc
      exact List.all_eq_true.1 (List.all_takeWhile (l := t.take 5)) c hc
    have hl : (digs t).length ≤ 5 := by
      unfold digs
      have h1 := (List.takeWhile_sublist (p := isDig) (l := t.take 5)).length_le
      have h2 : (t.take 5).length ≤ 5 := by simp; omega
      omega
    have hy := headDig_app hr hx
    have e : t ++ x = digs t ++ (r ++ x) := by rw [← List.append_assoc, ht]
    have hd : digs (t ++ x) = digs t := by rw [e]; exact digs_of hall hl hy
    have hne : digs t ≠ [] := fun h0 => hn (.inl h0)
    have hhd : (t ++ x).head? = t.head? := by
      cases t with
      | nil => exact absurd (by rfl) hne
      | cons c t => rfl
    unfold num6 num5
    rw [hd, hhd, if_neg hn]
    have hdr : (t ++ x).drop (digs t).length = r ++ x := by
      rw [e, List.drop_left]
    rw [hdr, hk]
    dsimp only
    rw [if_neg (by rw [hy]; simp)]
theorem key_ext {t t1 x : List UInt8} {k : Int} (h : key num6 t = some (k, t1)) : key num6 (t ++ x) = some (k, t1 ++ x) := by
  cases t with
  | nil => simp [key] at h
  | cons c t =>
    rw [List.cons_append]
    unfold key at h ⊢
    dsimp only at h ⊢
    by_cases hc : c = 45
    · rw [if_pos hc] at h ⊢
      cases t with
      | nil => simp at h
      | cons d t2 =>
        simp only [List.cons_append] at h ⊢
        split at h
        · rename_i hd
          rw [if_pos hd]
          simp only [Option.some.injEq, Prod.mk.injEq] at h
          obtain ⟨rfl, rfl⟩ := h
          rfl
        · cases h
    · rw [if_neg hc] at h ⊢
      cases hn : num6 (c :: t) with
      | none => rw [hn] at h; simp at h
      | some p =>
        obtain ⟨k1, r1⟩ := p
        rw [hn] at h
        cases r1 with
        | nil => simp at h
        | cons d t2 =>
          have h2 := num6_ext (x := x) hn (.inl (by simp))
          rw [List.cons_append, List.cons_append] at h2
          rw [h2]
          simp only [Option.map_some] at h ⊢
          split at h
          · rename_i hd
            rw [if_pos hd]
            simp only [Option.some.injEq, Prod.mk.injEq] at h
            obtain ⟨rfl, rfl⟩ := h
            rfl
          · cases h
/-- What is read up to a sign that ends it is read so whatever stands behind. -/
theorem pG_ext : ∀ (f : Nat) (m : Bool) (n : Nat) (seen : List Int) (t : List UInt8) (r : Row) (t' : List UInt8), pG num6 f m n seen t = some (r, t') → (m = true → t' ≠ []) → ∀ (g : Nat) (x : List UInt8), (t ++ x).length < g → pG num6 g m n seen (t ++ x) = some (r, t' ++ x)
  | 0, _, _, _, _, _, _, h, _, _, _, _ => by simp [pG] at h
  | _ + 1, _, _, _, _, _, _, _, _, 0, _, hg => by omega
  | f + 1, true, n, seen, t, r, t', h, hm, g + 1, x, hg => by
    have hm' := hm rfl
    cases t with
    | nil =>
      simp only [pG, Option.some.injEq, Prod.mk.injEq] at h
      exact absurd h.2.symm hm'
    | cons c t1 =>
      rw [List.cons_append] at hg ⊢
      simp only [List.length_cons] at hg
      unfold pG at h ⊢
      dsimp only at h ⊢
      split at h
      · rename_i h1
        rw [if_pos h1]
        obtain ⟨p, hp, e⟩ := Option.map_eq_some_iff.1 h
        obtain ⟨r1, t2⟩ := p
        simp only [Prod.mk.injEq] at e
        obtain ⟨rfl, rfl⟩ := e
        rw [pG_ext f true n [] t1 r1 t2 hp hm g x (by omega)]
        rfl
      · rename_i h1
        rw [if_neg h1]
        split at h
        · rename_i h2
          rw [if_pos h2]
          cases hn : num6 t1 with
          | none => rw [hn] at h; cases h
          | some q =>
            obtain ⟨k, t2⟩ := q
            rw [hn] at h
            dsimp only at h
            obtain ⟨p, hp, e⟩ := Option.map_eq_some_iff.1 h
            obtain ⟨r1, t3⟩ := p
            simp only [Prod.mk.injEq] at e
            obtain ⟨rfl, rfl⟩ := e
            have hle := pG_le num6_short _ _ _ _ _ _ _ hp
            have hlt := num6_short _ _ _ hn
            have hne : t2 ≠ [] := fun e0 => by
              subst e0
              exact hm' (List.eq_nil_of_length_eq_zero (by simpa using hle))
            rw [num6_ext (x := x) hn (.inl hne)]
            dsimp only
            rw [pG_ext f true n [] t2 r1 t3 hp hm g x (by rw [List.length_append] at hg ⊢; omega)]
            rfl
        · rename_i h2
          rw [if_neg h2]
          split at h
          · rename_i h3
            rw [if_pos h3]
            cases t1 with
            | nil => cases h
            | cons d t2 =>
              rw [List.cons_append] at hg ⊢
              simp only [List.length_cons] at hg
              dsimp only at h ⊢
              split at h
              · cases h
              · rename_i h4
                rw [if_neg h4]
                cases hi : pG num6 f true (n + 1) [] t2 with
                | none => rw [hi] at h; cases h
                | some q =>
                  obtain ⟨i, t3⟩ := q
                  rw [hi] at h
                  cases t3 with
                  | nil => cases h
                  | cons e3 t3 =>
                    have hle := pG_le num6_short _ _ _ _ _ _ _ hi
                    simp only [List.length_cons] at hle
                    rw [pG_ext f true (n + 1) [] t2 i (e3 :: t3) hi (fun _ => by simp) g x (by omega)]
                    rw [List.cons_append]
                    dsimp only at h ⊢
                    split at h
                    · cases h
                    · rename_i h5
                      rw [if_neg h5]
                      obtain ⟨p, hp, e⟩ := Option.map_eq_some_iff.1 h
                      obtain ⟨r1, t4⟩ := p
                      simp only [Prod.mk.injEq] at e
                      obtain ⟨rfl, rfl⟩ := e
                      rw [pG_ext f true n [] t3 r1 t4 hp hm g x (by rw [List.length_append] at hg ⊢; omega)]
                      rfl
          · rename_i h3
            rw [if_neg h3]
            split at h
            · rename_i h4
              rw [if_pos h4]
              split at h
              · cases h
              · rename_i h5
                rw [if_neg h5]
                cases ha : pG num6 f false (n + 1) [] t1 with
                | none => rw [ha] at h; cases h
                | some q =>
                  obtain ⟨a, t2⟩ := q
                  rw [ha] at h
                  have hle := pG_le num6_short _ _ _ _ _ _ _ ha
                  rw [pG_ext f false (n + 1) [] t1 a t2 ha (fun e => by cases e) g x (by omega)]
                  dsimp only at h ⊢
                  obtain ⟨p, hp, e⟩ := Option.map_eq_some_iff.1 h
                  obtain ⟨r1, t3⟩ := p
                  simp only [Prod.mk.injEq] at e
                  obtain ⟨rfl, rfl⟩ := e
                  rw [pG_ext f true n [] t2 r1 t3 hp hm g x (by rw [List.length_append] at hg ⊢; omega)]
                  rfl
            · rename_i h4
              rw [if_neg h4]
              simp only [Option.some.injEq, Prod.mk.injEq] at h
              obtain ⟨rfl, rfl⟩ := h
              rfl
  | f + 1, false, n, seen, t, r, t', h, _, g + 1, x, hg => by
    unfold pG at h ⊢
    cases hk : key num6 t with
    | none => rw [hk] at h; cases h
    | some q =>
      obtain ⟨k, t1⟩ := q
      rw [hk] at h
      rw [key_ext (x := x) hk]
      have hkl := key_lt num6_short hk
      dsimp only at h ⊢
      cases hi : pG num6 f true n [] t1 with
      | none => rw [hi] at h; cases h
      | some q =>
        obtain ⟨i, t2⟩ := q
        rw [hi] at h
        cases t2 with
        | nil => cases h
        | cons d t2 =>
          have hle := pG_le num6_short _ _ _ _ _ _ _ hi
          simp only [List.length_cons] at hle
          rw [pG_ext f true n [] t1 i (d :: t2) hi (fun _ => by simp) g x (by rw [List.length_append] at hg ⊢; omega)]
          rw [List.cons_append]
          dsimp only at h ⊢
          split at h
          · cases h
          · rename_i h1
            rw [if_neg h1]
            split at h
            · rename_i h2
              rw [if_pos h2]
              obtain ⟨p, hp, e⟩ := Option.map_eq_some_iff.1 h
              obtain ⟨r1, t3⟩ := p
              simp only [Prod.mk.injEq] at e
              obtain ⟨rfl, rfl⟩ := e
              rw [pG_ext f false n (seen ++ [k]) t2 r1 t3 hp (fun e => by cases e) g x (by rw [List.length_append] at hg ⊢; omega)]
              rfl
            · rename_i h2
              rw [if_neg h2]
              split at h
              · rename_i h3
                rw [if_pos h3]
                simp only [Option.some.injEq, Prod.mk.injEq] at h
                obtain ⟨rfl, rfl⟩ := h
                rfl
              · cases h
/-- A row that ends with the text, and one behind it. -/
theorem pG_cat {x x' : List UInt8} {rx : Row} {g0 : Nat} (hx : headDig x = false) (hg0 : x.length < g0) : ∀ (f n : Nat) (seen : List Int) (t : List UInt8) (r : Row), pG num6 f true n seen t = some (r, []) → pG num6 g0 true n [] x = some (rx, x') → ∀ (g : Nat), (t ++ x).length < g → pG num6 g true n seen (t ++ x) = some (r.app rx, x')
  | 0, _, _, _, _, h, _, _, _ => by simp [pG] at h
  | _ + 1, _, _, _, _, _, _, 0, hg => by omega
  | f + 1, n, seen, t, r, h, h0, g + 1, hg => by
    cases t with
    | nil =>
      simp only [pG, Option.some.injEq, Prod.mk.injEq] at h
      obtain ⟨rfl, -⟩ := h
      rw [List.nil_append] at hg ⊢
      rw [Row.app, ← h0, pG_fuel num6_short g0 (g + 1) true n [] x hg0 hg]
      unfold pG
      rfl
    | cons c t1 =>
      rw [List.cons_append] at hg ⊢
      simp only [List.length_cons] at hg
      unfold pG at h ⊢
      dsimp only at h ⊢
      split at h
      · rename_i h1
        rw [if_pos h1]
        obtain ⟨p, hp, e⟩ := Option.map_eq_some_iff.1 h
        obtain ⟨r1, t2⟩ := p
        simp only [Prod.mk.injEq] at e
        obtain ⟨rfl, rfl⟩ := e
        rw [pG_cat hx hg0 f n [] t1 r1 hp h0 g (by omega)]
        rfl
      · rename_i h1
        rw [if_neg h1]
        split at h
        · rename_i h2
          rw [if_pos h2]
          cases hn : num6 t1 with
          | none => rw [hn] at h; cases h
          | some q =>
            obtain ⟨k, t2⟩ := q
            rw [hn] at h
            dsimp only at h
            obtain ⟨p, hp, e⟩ := Option.map_eq_some_iff.1 h
            obtain ⟨r1, t3⟩ := p
            simp only [Prod.mk.injEq] at e
            obtain ⟨rfl, rfl⟩ := e
            have hlt := num6_short _ _ _ hn
            rw [num6_ext (x := x) hn (.inr hx)]
            dsimp only
            rw [pG_cat hx hg0 f n [] t2 r1 hp h0 g (by rw [List.length_append] at hg ⊢; omega)]
            rfl
        · rename_i h2
          rw [if_neg h2]
          split at h
          · rename_i h3
            rw [if_pos h3]
            cases t1 with
            | nil => cases h
            | cons d t2 =>
              rw [List.cons_append] at hg ⊢
              simp only [List.length_cons] at hg
              dsimp only at h ⊢
              split at h
              · cases h
              · rename_i h4
                rw [if_neg h4]
                cases hi : pG num6 f true (n + 1) [] t2 with
                | none => rw [hi] at h; cases h
                | some q =>
                  obtain ⟨i, t3⟩ := q
                  rw [hi] at h
                  cases t3 with
                  | nil => cases h
                  | cons e3 t3 =>
                    have hle := pG_le num6_short _ _ _ _ _ _ _ hi
                    simp only [List.length_cons] at hle
                    rw [pG_ext f true (n + 1) [] t2 i (e3 :: t3) hi (fun _ => by simp) g x (by omega)]
                    rw [List.cons_append]
                    dsimp only at h ⊢
                    split at h
                    · cases h
                    · rename_i h5
                      rw [if_neg h5]
                      obtain ⟨p, hp, e⟩ := Option.map_eq_some_iff.1 h
                      obtain ⟨r1, t4⟩ := p
                      simp only [Prod.mk.injEq] at e
                      obtain ⟨rfl, rfl⟩ := e
                      rw [pG_cat hx hg0 f n [] t3 r1 hp h0 g (by rw [List.length_append] at hg ⊢; omega)]
                      rfl
          · rename_i h3
            rw [if_neg h3]
            split at h
            · rename_i h4
              rw [if_pos h4]
              split at h
              · cases h
              · rename_i h5
                rw [if_neg h5]
                cases ha : pG num6 f false (n + 1) [] t1 with
                | none => rw [ha] at h; cases h
                | some q =>
                  obtain ⟨a, t2⟩ := q
                  rw [ha] at h
                  have hle := pG_le num6_short _ _ _ _ _ _ _ ha
                  rw [pG_ext f false (n + 1) [] t1 a t2 ha (fun e => by cases e) g x (by omega)]
                  dsimp only at h ⊢
                  obtain ⟨p, hp, e⟩ := Option.map_eq_some_iff.1 h
                  obtain ⟨r1, t3⟩ := p
                  simp only [Prod.mk.injEq] at e
                  obtain ⟨rfl, rfl⟩ := e
                  rw [pG_cat hx hg0 f n [] t2 r1 hp h0 g (by rw [List.length_append] at hg ⊢; omega)]
                  rfl
            · simp only [Option.some.injEq, Prod.mk.injEq] at h
              cases h.2
theorem head_form {x : List UInt8} {r : Row} (h : form num6 x = some r) : headDig x = false := by
  cases x with
  | nil => rfl
  | cons c x =>
    cases hd : isDig c with
    | false => exact hd
    | true =>
      exfalso
      obtain ⟨h1, h2, h3, h4, _⟩ := dig_stop hd
      unfold form at h
      split at h
      · cases h
      · unfold pG at h
        dsimp only at h
        rw [if_neg (by simp [h1]), if_neg (by simp [h2]), if_neg (by simp [h3]), if_neg h4] at h
        simp at h
theorem form_cat {a b : List UInt8} {ra rb : Row} (ha : form num5 a = some ra) (hb : form num5 b = some rb) (hl : a.length + b.length ≤ 1000) : form num5 (a ++ b) = some (ra.app rb) := by
  rw [← form_56] at ha hb ⊢
  have hhd := head_form hb
  unfold form at ha hb ⊢
  rw [if_neg (by rw [List.length_append]; omega)]
  split at ha
  · cases ha
  · split at hb
    · cases hb
    · split at ha
      · rename_i r1 e1
        split at hb
        · rename_i r2 e2
          simp only [Option.some.injEq] at ha hb
          subst ha hb
          rw [pG_cat hhd (Nat.lt_succ_self _) _ 0 [] a r1 e1 e2 ((a ++ b).length + 1) (Nat.lt_succ_self _)]
        · cases hb
      · cases ha
/-- A row of signs has no arm. -/
theorem pG_noArm : ∀ (f n : Nat) (seen : List Int) (t : List UInt8) (r : Row) (t' : List UInt8), pG num6 f true n seen t = some (r, t') → noArm r
  | 0, _, _, _, _, _, h => by simp [pG] at h
  | f + 1, n, seen, t, r, t', h => by
    cases t with
    | nil =>
      simp only [pG, Option.some.injEq, Prod.mk.injEq] at h
      rw [← h.1]
      trivial
    | cons c t1 =>
      unfold pG at h
      dsimp only at h
      split at h
      · obtain ⟨p, hp, e⟩ := Option.map_eq_some_iff.1 h
        simp only [Prod.mk.injEq] at e
        rw [← e.1]
        exact pG_noArm f n [] t1 p.1 p.2 hp
      · split at h
        · split at h
          · cases h
          · obtain ⟨p, hp, e⟩ := Option.map_eq_some_iff.1 h
            simp only [Prod.mk.injEq] at e
            rw [← e.1]
            exact pG_noArm f n [] _ p.1 p.2 hp
        · split at h
          · split at h
            · cases h
            · split at h
              · cases h
              · split at h
                · split at h
                  · cases h
                  · obtain ⟨p, hp, e⟩ := Option.map_eq_some_iff.1 h
                    simp only [Prod.mk.injEq] at e
                    rw [← e.1]
                    exact pG_noArm f n [] _ p.1 p.2 hp
                · cases h
          · split at h
            · split at h
              · cases h
              · split at h
                · obtain ⟨p, hp, e⟩ := Option.map_eq_some_iff.1 h
                  simp only [Prod.mk.injEq] at e
                  rw [← e.1]
                  exact pG_noArm f n [] _ p.1 p.2 hp
                · cases h
            · simp only [Option.some.injEq, Prod.mk.injEq] at h
              rw [← h.1]
              trivial
/-- What two forms lay out, one behind the other, the form of both lays out. -/
theorem enc_cat {fa fb : List UInt8} {Na Nb : List Int} {Ta Tb : List ByteArray} {a b : List UInt8} (ha : encO fa Na Ta = .ok a) (hb : encO fb Nb Tb = .ok b) (hl : fa.length + fb.length ≤ 1000) (hab : a.length + b.length ≤ 65536) : encO (fa ++ fb) (Na ++ Nb) (Ta ++ Tb) = .ok (a ++ b) := by
  have key : ∀ {f : List UInt8} {N : List Int} {T : List ByteArray} {y : List UInt8}, encO f N T = .ok y → ∃ r, form num5 f = some r ∧ ly none r N T = .ok (y, [], []) := by
    intro f N T y h
    unfold encO at h
    split at h
    · cases h
    · rename_i r hr
      split at h
      · cases h
      · rename_i b' hl
        split at h
        · cases h
        · simp only [Except.ok.injEq] at h
          subst h
          unfold laidO at hl
          split at hl
          · cases hl
          · rename_i y2 N' T' hly
            split at hl
            · rename_i hNT
              obtain ⟨rfl, rfl⟩ := hNT
              simp only [Except.ok.injEq] at hl
              subst hl
              exact ⟨r, hr, hly⟩
            · cases hl
  obtain ⟨ra, hra, la⟩ := key ha
  obtain ⟨rb, hrb, lb⟩ := key hb
  have hna : noArm ra := by
    rw [← form_56] at hra
    unfold form at hra
    split at hra
    · cases hra
    · split at hra
      · rename_i r1 e1
        simp only [Option.some.injEq] at hra
        subst hra
        exact pG_noArm _ _ _ _ _ _ e1
      · cases hra
  have h1 := frm_ly ra none Na Ta a [] [] Nb Tb la
  have h2 : ly none (ra.app rb) (Na ++ Nb) (Ta ++ Tb) = .ok (a ++ b, [], []) := by
    rw [ly_app ra rb hna, h1]
    simp only [List.nil_append, andL]
    rw [lb]
    rfl
  unfold encO
  rw [form_cat hra hrb hl]
  dsimp only
  unfold laidO
  rw [h2]
  dsimp only
  rw [if_pos ⟨rfl, rfl⟩]
  dsimp only
  rw [if_neg (by rw [List.length_append]; omega)]
end Go.Proofs.YtakfpfnaogdmlaaDoor
