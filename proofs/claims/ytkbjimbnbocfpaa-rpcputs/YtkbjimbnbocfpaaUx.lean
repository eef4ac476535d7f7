/-
  Who calls, by an AUTH_SYS credential: takeUnix. Its conditions: a call's block; a text of at most 400 bytes.
-/
import Derived.Test.YtkbjimbnbocfpaaGt
namespace Go.Proofs.Ytkbjimbnbocfpaa
open Go.RowKit

def ints (L : List Int) : List Value := L.map fun n => Value.int .i64 n
/-- So many numbers. -/
def grpR (l : List UInt8) (e : Int) : Nat → List Int × List UInt8 × Int
  | 0 => ([], l, e)
  | k + 1 => ((grpR l e k).1 ++ [(numR 4 (grpR l e k).2.1 (grpR l e k).2.2).1], (numR 4 (grpR l e k).2.1 (grpR l e k).2.2).2.1, (numR 4 (grpR l e k).2.1 (grpR l e k).2.2).2.2)
theorem grpR_len (l : List UInt8) (e : Int) : ∀ k, (grpR l e k).1.length = k ∧ (grpR l e k).2.1.length ≤ l.length
  | 0 => ⟨rfl, Nat.le_refl _⟩
  | k + 1 => by
    obtain ⟨a, b⟩ := grpR_len l e k
    exact ⟨by simp [grpR, a], Nat.le_trans (numR_le 4 _ _).2 b⟩

/-- What may have changed: the block q, and new blocks. -/
structure Fq (q : Nat) (w w' : World) : Prop where
  os : w'.os = w.os
  tape : w'.tape = w.tape
  output : w'.output = w.output
  size : w.heap.size ≤ w'.heap.size
  block : ∀ k, k < w.heap.size → k ≠ q → w'.heap[k]? = w.heap[k]?
theorem Fq.ofBelow {q : Nat} {w w' : World} (h : Below w.heap.size w w') : Fq q w w' := ⟨h.os, h.tape, h.output, h.size, fun k hk _ => h.block k hk⟩
theorem Fq.only {q p : Nat} {w a b : World} (h : Fq q w a) (ho : Only p a b) (hp : w.heap.size ≤ p) : Fq q w b :=
  ⟨ho.os.trans h.os, ho.tape.trans h.tape, ho.output.trans h.output, by rw [ho.size]; exact h.size, fun k hk hq => (ho.block k (by omega)).trans (h.block k hk hq)⟩
theorem Fq.set {q : Nat} {w a : World} (h : Fq q w a) (o : Nat) (x : Value) : Fq q w (a.setCell ⟨q, o, none⟩ x) :=
  ⟨h.os, h.tape, h.output, by simpa [World.setCell] using h.size, fun k hk hq => (Below.heap_setCell _ _ _ _ hq).trans (h.block k hk hq)⟩

theorem heap_set {w : World} {g o : Nat} {cur : Array Value} {t : TypeId} (x : Value) (h : w.heap[g]? = some (.cells cur t (0, 0))) : (w.setCell ⟨g, o, none⟩ x).heap[g]? = some (.cells (cur.setIfInBounds o x) t (0, 0)) := by
  rw [setCell_eq_setRow w g o cur t (0, 0) x h]
  exact setRow_heap w g cur _ t _ h
theorem Rd.set {w : World} {p q o : Nat} {l : List UInt8} {e : Int} {cs : Array Value} (h : Rd w p l e) (hq : w.heap[q]? = some (.cells cs 30 (0, 0))) (x : Value) : Rd (w.setCell ⟨q, o, none⟩ x) p l e := by
  refine h.keep fun k cs' t fr hk ht => Below.heap_setCell _ _ _ _ ?_
  intro e1
  rw [show k = q from e1, hq] at hk
  injection (Option.some.inj hk) with _ e2 _
  rw [← e2] at ht
  revert ht
  decide

/-- A call's block, its fields. -/
def CAt (w : World) (q : Nat) (a b c d : Int) (u : Bool) (st : Int) (m : ByteArray) (uid gid : Int) (vg : Value) (args : ByteArray) : Prop :=
  w.heap[q]? = some (.cells #[.int .i64 a, .int .i64 b, .int .i64 c, .int .i64 d, .bool u, .int .i64 st, .string m, .int .i64 uid, .int .i64 gid, vg, .string args] 30 (0, 0))
theorem CAt.free {w : World} {q : Nat} {a b c d : Int} {u : Bool} {st : Int} {m : ByteArray} {uid gid : Int} {vg : Value} {args : ByteArray} (h : CAt w q a b c d u st m uid gid vg args) (o : Nat) : w.frozen? ⟨q, o, none⟩ = false := Lib.frozen_of_heap h _
theorem CAt.cells {w : World} {q : Nat} {a b c d : Int} {u : Bool} {st : Int} {m : ByteArray} {uid gid : Int} {vg : Value} {args : ByteArray} (h : CAt w q a b c d u st m uid gid vg args) :
    w.cell? ⟨q, 4, none⟩ = some (.bool u) ∧ w.cell? ⟨q, 5, none⟩ = some (.int .i64 st) ∧ w.cell? ⟨q, 6, none⟩ = some (.string m) ∧ w.cell? ⟨q, 7, none⟩ = some (.int .i64 uid) ∧ w.cell? ⟨q, 8, none⟩ = some (.int .i64 gid) ∧ w.cell? ⟨q, 9, none⟩ = some vg ∧ w.cell? ⟨q, 10, none⟩ = some (.string args) := by
  have hh : w.heap[q]? = _ := h
  refine ⟨?_, ?_, ?_, ?_, ?_, ?_, ?_⟩ <;> (rw [cell_of_row w q _ _ _ _ hh]; rfl)
theorem CAt.only {w w' : World} {q p : Nat} {a b c d : Int} {u : Bool} {st : Int} {m : ByteArray} {uid gid : Int} {vg : Value} {args : ByteArray} (h : CAt w q a b c d u st m uid gid vg args) (ho : Only p w w') (hqp : q ≠ p) : CAt w' q a b c d u st m uid gid vg args := (ho.block q hqp).trans h
theorem Only.undrew {p : Nat} {w w' : World} (h : Only p w.drew w') : Only p w w' := ⟨h.os, h.tape, h.output, h.size, h.block⟩

theorem owned_type {w : World} {B e size n g : Nat} {v : Value} {xs : List Value} (h : w.ownsRow B e size v n xs) (hg : v.ownBlock = some g) : ∃ cur, w.heap[g]? = some (.cells cur e (0, 0)) := by
  rcases h.2 with ⟨rfl, _⟩ | ⟨g', cap, cur, rfl, _, hh, _⟩
  · cases hg
  · have : g' = g := by simpa [Value.ownBlock] using hg
    subst this
    exact ⟨cur, hh⟩
theorem info3 : (Try.prog.info? 3).map (fun i => (i.zero, i.size, i.bytes)) = some (some (.int .i64 0), 1, 8) := by kernel_rfl
theorem ownsRow_of {w w' : World} {B e size n : Nat} {v : Value} {xs : List Value} (h : w.ownsRow B e size v n xs) (hk : ∀ g, v.ownBlock = some g → w'.heap[g]? = w.heap[g]?) : w'.ownsRow B e size v n xs := by
  refine ⟨h.1, ?_⟩
  rcases h.2 with e | ⟨g, cap, cur, e, hB, hg, r⟩
  · exact .inl e
  · exact .inr ⟨g, cap, cur, e, hB, (hk g (by rw [e]; rfl)).trans hg, r⟩

set_option maxRecDepth 100000 in
set_option maxHeartbeats 1000000 in
theorem unix_read (q : Nat) (a b c d : Int) (s : ByteArray) (w : World) (hq : CAt w q a b c d false 0 ⟨#[]⟩ 0 0 (.slice none 0 0) ⟨#[]⟩) (hs : s.size ≤ 400)
    (st : Int) (l1 : List UInt8) (e1 : Int) (h1 : numR 4 s.data.toList 0 = (st, l1, e1)) (m : ByteArray) (l2 : List UInt8) (e2 : Int) (h2 : opqR 255 l1 e1 = (m, l2, e2))
    (uid : Int) (l3 : List UInt8) (e3 : Int) (h3 : numR 4 l2 e2 = (uid, l3, e3)) (gid : Int) (l4 : List UInt8) (e4 : Int) (h4 : numR 4 l3 e3 = (gid, l4, e4))
    (k : Nat) (l5 : List UInt8) (e5 : Int) (h5 : numR 4 l4 e4 = ((k : Int), l5, e5)) (B : Bool) (hB : (decide (k ≤ 16) && (endR (grpR l5 e5 k).2.1 (grpR l5 e5 k).2.2 == 0)) = B) :
    Calls Try.prog 52 #[.pointer (some ⟨q, 0, none⟩), .string s] w fun r w' => r = .returned (.bool B) ∧ Fq q w w' ∧ (B = true → ∃ vg, CAt w' q a b c d true st m uid gid vg ⟨#[]⟩ ∧ w'.ownsRow 0 3 1 vg k (ints (grpR l5 e5 k).1) ∧ ∀ g, vg.ownBlock = some g → w.heap.size ≤ g) := by
  have n0 : s.data.toList.length ≤ 400 := by rw [Array.length_toList]; exact hs
  have n1 := numR_len h1
  have n2 := opqR_len h2
  have n3 := numR_len h3
  have n4 := numR_len h4
  have n5 := numR_len h5
  have H1 := Lib.hid h1
  have H2 := Lib.hid h2
  have H3 := Lib.hid h3
  have H4 := Lib.hid h4
  have H5 := Lib.hid h5
  have HBB := Lib.hid hB
  have hql : q < w.heap.size := (Array.getElem?_eq_some_iff.1 hq).1
  have HQ := Lib.hid hq
  clear h1 h2 h3 h4 h5 hB hq
  obtain ⟨p, hp⟩ : ∃ p, p = w.heap.size + 1 := ⟨_, rfl⟩
  have HP := Lib.hid hp
  have hqp : q ≠ p := by omega
  have hpw : w.heap.size ≤ p := by omega
  clear hp
  go_enter Try.func52, Try.ntmps52
  go_wp2_with fail
  refine (open_any s w (by unfold maxLen; omega)).mono ?_
  rintro r w1 ⟨rfl, hR1, hB1, _⟩
  rw [← HP.out] at hR1 ⊢
  have hC1 : CAt w1 q a b c d false 0 ⟨#[]⟩ 0 0 (.slice none 0 0) ⟨#[]⟩ := (hB1.block q hql).trans HQ.out
  have hC2 : CAt (w1.setCell ⟨q, 4, none⟩ (.bool true)) q a b c d true 0 ⟨#[]⟩ 0 0 (.slice none 0 0) ⟨#[]⟩ := by unfold CAt; rw [heap_set _ hC1]; rfl
  have HR2 := Lib.hid (hR1.set (o := 4) hC1 (.bool true))
  have HF2 := Lib.hid ((Fq.ofBelow (q := q) hB1).set 4 (.bool true))
  have HC2 := Lib.hid hC2
  have f4 := hC1.cells.1
  have ff := hC1.free 4
  clear hR1 hB1 hC1 hC2
  go_wp2_with fail
  clear f4 ff
  generalize w1.setCell ⟨q, 4, none⟩ (.bool true) = W2 at *
  refine (ruint_n p _ 0 W2 HR2.out (by omega) st l1 e1 H1.out).mono ?_
  rintro r w3 ⟨rfl, hR3, hO3⟩
  have HR3 := Lib.hid hR3
  have HC3 := Lib.hid (HC2.out.only hO3 hqp)
  have HF3 := Lib.hid (HF2.out.only hO3 hpw)
  clear hR3 hO3 HR2 HC2 HF2
  go_wp2_with fail
  refine (ropaque_n p l1 e1 255 w3 HR3.out (by omega) m l2 e2 H2.out).mono ?_
  rintro r w4 ⟨rfl, hR4, hO4⟩
  have hC4 := HC3.out.only hO4 hqp
  have hC5 : CAt (w4.setCell ⟨q, 5, none⟩ (.int .i64 st)) q a b c d true st ⟨#[]⟩ 0 0 (.slice none 0 0) ⟨#[]⟩ := by unfold CAt; rw [heap_set _ hC4]; rfl
  have hC6 : CAt ((w4.setCell ⟨q, 5, none⟩ (.int .i64 st)).setCell ⟨q, 6, none⟩ (.string m)) q a b c d true st m 0 0 (.slice none 0 0) ⟨#[]⟩ := by unfold CAt; rw [heap_set _ hC5]; rfl
  have HR6 := Lib.hid ((hR4.set (o := 5) hC4 (.int .i64 st)).set (o := 6) hC5 (.string m))
  have HF6 := Lib.hid (((HF3.out.only hO4 hpw).set 5 (.int .i64 st)).set 6 (.string m))
  have HC6 := Lib.hid hC6
  obtain ⟨_, f5, f6, _⟩ := hC4.cells
  have ff := hC4.free
  clear hR4 hO4 hC4 hC5 hC6 HR3 HC3 HF3
  go_wp2_with fail
  clear f5 f6 ff
  generalize (w4.setCell ⟨q, 5, none⟩ (.int .i64 st)).setCell ⟨q, 6, none⟩ (.string m) = W6 at *
  refine (ruint_n p l2 e2 W6 HR6.out (by omega) uid l3 e3 H3.out).mono ?_
  rintro r w7 ⟨rfl, hR7, hO7⟩
  have HR7 := Lib.hid hR7
  have HC7 := Lib.hid (HC6.out.only hO7 hqp)
  have HF7 := Lib.hid (HF6.out.only hO7 hpw)
  clear hR7 hO7 HR6 HC6 HF6
  go_wp2_with fail
  refine (ruint_n p l3 e3 w7 HR7.out (by omega) gid l4 e4 H4.out).mono ?_
  rintro r w8 ⟨rfl, hR8, hO8⟩
  have hC8 := HC7.out.only hO8 hqp
  have hC9 : CAt (w8.setCell ⟨q, 7, none⟩ (.int .i64 uid)) q a b c d true st m uid 0 (.slice none 0 0) ⟨#[]⟩ := by unfold CAt; rw [heap_set _ hC8]; rfl
  have hC10 : CAt ((w8.setCell ⟨q, 7, none⟩ (.int .i64 uid)).setCell ⟨q, 8, none⟩ (.int .i64 gid)) q a b c d true st m uid gid (.slice none 0 0) ⟨#[]⟩ := by unfold CAt; rw [heap_set _ hC9]; rfl
  have HR10 := Lib.hid ((hR8.set (o := 7) hC8 (.int .i64 uid)).set (o := 8) hC9 (.int .i64 gid))
  have HF10 := Lib.hid (((HF7.out.only hO8 hpw).set 7 (.int .i64 uid)).set 8 (.int .i64 gid))
  have HC10 := Lib.hid hC10
  obtain ⟨_, _, _, f7, f8, _⟩ := hC8.cells
  have ff := hC8.free
  clear hR8 hO8 hC8 hC9 hC10 HR7 HC7 HF7
  go_wp2_with fail
  clear f7 f8 ff
  generalize (w8.setCell ⟨q, 7, none⟩ (.int .i64 uid)).setCell ⟨q, 8, none⟩ (.int .i64 gid) = W10 at *
  refine (ruint_n p l4 e4 W10 HR10.out (by omega) (k : Int) l5 e5 H5.out).mono ?_
  rintro r w11 ⟨rfl, hR11, hO11⟩
  have HR11 := Lib.hid hR11
  have HC11 := Lib.hid (HC10.out.only hO11 hqp)
  have HF11 := Lib.hid (HF10.out.only hO11 hpw)
  clear hR11 hO11 HR10 HC10 HF10
  by_cases hk : 16 < k
  · go_wp2
    go_ret
    have hBf : B = false := by rw [← HBB.out]; simp; omega
    rw [hBf]
    exact ⟨rfl, HF11.out, fun e => by cases e⟩
  · obtain ⟨i3, hi3, hz30, hz31, hz32⟩ := info_parts info3
    go_wp2
    go_loopw [39] (fun x wr => ∃ (i : Nat) (vg : Value), i ≤ k ∧ x = .int .i64 i ∧ Rd wr p (grpR l5 e5 i).2.1 (grpR l5 e5 i).2.2 ∧ CAt wr q a b c d true st m uid gid vg ⟨#[]⟩ ∧ wr.ownsRow 0 3 1 vg i (ints (grpR l5 e5 i).1) ∧ Fq q w wr ∧ ∀ g, vg.ownBlock = some g → w.heap.size ≤ g ∧ g ≠ p) (fun x _ => k - (intOf x).toNat)
    case atStart => exact ⟨0, .slice none 0 0, Nat.zero_le _, rfl, HR11.out, HC11.out, World.ownsRow_nil _ _ _ _, HF11.out, by intro g hg; simp [Value.ownBlock] at hg⟩
    case round =>
      obtain ⟨i, vg, hik, rfl, hR, hC, hown, hF, hv⟩ := hrel
      have HR := Lib.hid hR
      have HC := Lib.hid hC
      have HO := Lib.hid hown
      have HF := Lib.hid hF
      have HV := Lib.hid hv
      have g9 := hC.cells.2.2.2.2.2.1
      have gf := hC.free 9
      have hqw : q < wr.heap.size := (Array.getElem?_eq_some_iff.1 hC).1
      have hqv : some q ≠ vg.ownBlock := by
        intro e
        have := (hv q e.symm).1
        omega
      have hpr := hR.lt
      clear hR hC hown hF hv HR11 HC11 HF11
      by_cases hlt : i < k
      · obtain ⟨n, l', e', hn⟩ : ∃ n l' e', numR 4 (grpR l5 e5 i).2.1 (grpR l5 e5 i).2.2 = (n, l', e') := ⟨_, _, _, rfl⟩
        have hlen := (grpR_len l5 e5 i).2
        have HG : Hid (grpR l5 e5 (i + 1) = ((grpR l5 e5 i).1 ++ [n], l', e')) := Lib.hid (by show (_, _, _) = _; rw [hn])
        have HN := Lib.hid hn
        clear hn
        obtain ⟨M, hM⟩ : ∃ M, M = (grpR l5 e5 i).1 := ⟨_, rfl⟩
        obtain ⟨la, hla⟩ : ∃ la, la = (grpR l5 e5 i).2.1 := ⟨_, rfl⟩
        obtain ⟨ea, hea⟩ : ∃ ea, ea = (grpR l5 e5 i).2.2 := ⟨_, rfl⟩
        rw [← hM] at HO HG
        rw [← hla] at hlen
        rw [← hla, ← hea] at HR HN
        clear hM hla hea
        have hla4 : la.length ≤ 140737488355328 := by omega
        go_wp2
        go_region_law (first
          | (refine step_append_lies _ (by rfl) _ _ _ (by rfl) 0 3 i3 _ 1 8 Try.underlying23 hi3 hz30 hz31 hz32 rfl (by omega) vg _ _ (by rfl) ((ownsRow_of HO.out (fun g hg => hO3.block g (HV.out g hg).2)).alloc _)
              ⟨w3.heap.size, 0, none⟩ 1 1 [.int .i64 n] (by rfl) (by rfl) (World.news_of_block (cs := #[.int .i64 n]) (t := 3) (fr := (0, 0)) (heap_alloc_new w3 _)) (by simp [Value.oneCell'])
              (by omega) (by unfold maxLen; omega) (by omega) (by simp) (w3.heap.size + 1) (by simp) ?_; intro g cap w6 hown1 hgrow hat hglt; have hfw : w6.frozen? ⟨q, 9, none⟩ = false := (hgrow.frozen_far _ (by simp; omega) hqv).trans ((World.frozen?_alloc_past _ _ _ kl3).trans kf3); have hcw : w6.cell? ⟨q, 9, none⟩ = some vg := (hgrow.cell_far _ (by simp; omega) hqv).trans ((World.cell?_alloc_past _ _ _ kl3).trans kc3))
          | (go_simp; go_at_call 30; refine (ruint_n p la ea _ (by exact HR.out) hla4 n l' e' HN.out).mono ?_; rintro r w3 ⟨rfl, hR3, hO3d⟩; have hO3 : Only p wr w3 := Only.undrew hO3d; clear hO3d; have kc3 : w3.cell? ⟨q, 9, none⟩ = some vg := (World.cell?_of_block (a := ⟨q, 9, none⟩) (hO3.block q hqp)).trans g9; have kf3 : w3.frozen? ⟨q, 9, none⟩ = false := (World.frozen?_of_block (a := ⟨q, 9, none⟩) (hO3.block q hqp)).trans gf; have kl3 : q < w3.heap.size := by (rw [hO3.size]; exact hqw)))
        all_goals
          have hs3 : w3.heap.size = wr.heap.size := hO3.size
          have hblk : ∀ k, k < wr.heap.size → k ≠ p → some k ≠ vg.ownBlock → w6.heap[k]? = wr.heap[k]? := fun k hk hkp hkv =>
            (hgrow.block k (by simp; omega) hkv).trans (((World.grownBy_alloc w3 _ none).block k (by omega) (by simp)).trans (hO3.block k hkp))
          have hC6 : CAt w6 q a b c d true st m uid gid vg ⟨#[]⟩ := (hblk q hqw hqp hqv).trans HC.out
          have hR6 : Rd w6 p l' e' := by
            refine (hR3.alloc (.cells #[.int .i64 n] 3)).keep fun x cs t fr hx ht => hgrow.block x (Array.getElem?_eq_some_iff.1 hx).1 ?_
            intro ex
            obtain ⟨cur, hc⟩ := owned_type ((ownsRow_of HO.out (fun g hg => hO3.block g (HV.out g hg).2)).alloc (.cells #[.int .i64 n] 3)) ex.symm
            rw [hx] at hc
            injection (Option.some.inj hc) with _ e2 _
            rw [e2] at ht
            revert ht
            decide
          have hgq : g ≠ q := by
            rcases hat with e | e
            · intro e2; exact hqv (by rw [e, e2])
            · omega
          have HR7 := Lib.hid (hR6.set (o := 9) hC6 (.slice (some ⟨g, 0, none⟩) (i + 1) cap))
          have HC7 : Hid (CAt (w6.setCell ⟨q, 9, none⟩ (.slice (some ⟨g, 0, none⟩) (i + 1) cap)) q a b c d true st m uid gid (.slice (some ⟨g, 0, none⟩) (i + 1) cap) ⟨#[]⟩) := Lib.hid (by unfold CAt; rw [heap_set _ hC6]; rfl)
          have HO7 : Hid ((w6.setCell ⟨q, 9, none⟩ (.slice (some ⟨g, 0, none⟩) (i + 1) cap)).ownsRow 0 3 1 (.slice (some ⟨g, 0, none⟩) (i + 1) cap) (i + 1) (ints (M ++ [n]))) := Lib.hid (by
            rw [show ints (M ++ [n]) = ints M ++ [.int .i64 n] from by simp [ints]]
            refine ownsRow_of hown1 fun x hx => Below.heap_setCell _ _ _ _ ?_
            have : g = x := by simpa [Value.ownBlock] using hx
            rw [← this]; exact hgq)
          have HF7 : Hid (Fq q w (w6.setCell ⟨q, 9, none⟩ (.slice (some ⟨g, 0, none⟩) (i + 1) cap))) := Lib.hid (by
            have hf := HF.out
            refine Fq.set ⟨hgrow.os.trans (hO3.os.trans hf.os), hgrow.tape.trans (hO3.tape.trans hf.tape), hgrow.output.trans (hO3.output.trans hf.output), ?_, fun x hx hxq => ?_⟩ 9 _
            · have h1 := hgrow.size
              have h2 := hf.size
              simp at h1
              omega
            · refine (hblk x (by have := hf.size; omega) (by omega) ?_).trans (hf.block x hx hxq)
              intro ex
              have := (HV.out x ex.symm).1
              omega)
          have HV7 : Hid (∀ x, Value.ownBlock (.slice (some ⟨g, 0, none⟩) (i + 1) cap) = some x → w.heap.size ≤ x ∧ x ≠ p) := Lib.hid (by
            intro x hx
            have ex : g = x := by simpa [Value.ownBlock] using hx
            rw [← ex]
            rcases hat with e | e
            · exact HV.out g e
            · have := HF.out.size
              exact ⟨by omega, by omega⟩)
          clear hown1 hgrow hat hglt hfw hcw hR3 hO3 kc3 kf3 kl3 hblk hC6 hR6 hgq g9 gf hs3
          go_wp2
          go_roundw
          case rel => exact ⟨i + 1, _, by omega, by go_num, by rw [HG.out]; exact HR7.out, HC7.out, by rw [HG.out]; exact HO7.out, HF7.out, HV7.out⟩
          case measure => simp [intOf]; omega
      · obtain rfl : i = k := by omega
        go_wp2_with fail
        refine (end_any p _ _ wr HR.out).mono ?_
        rintro r w' ⟨rfl, rfl⟩
        go_wp2
        go_ret
        refine ⟨congrArg (fun z => Ending.returned (.bool z)) ?_, HF.out, fun _ => ⟨vg, HC.out, HO.out, fun g hg => (HV.out g hg).1⟩⟩
        rw [← HBB.out]
        have : decide (i ≤ 16) = true := decide_eq_true (by omega)
        rw [this]; rfl
end Go.Proofs.Ytkbjimbnbocfpaa
