/-
  The document's Split, told: it answers what the program's does. No condition.
-/
import Derived.Test.YtmmfmmjjpbfmeaaDoorSl
import Derived.Deep.AppendLies
import Derived.OwnWalk
namespace Go.Proofs.YtmmfmmjjpbfmeaaDoor
open Go.RowKit
def strs (l : List ByteArray) : List Value := l.map fun s => Value.string s
theorem strs_app (a b : List ByteArray) : strs (a ++ b) = strs a ++ strs b := by simp [strs]
theorem strs_len (a : List ByteArray) : (strs a).length = a.length := by simp [strs]
theorem info9 : (Tryd.prog.info? 9).map (fun i => (i.zero, i.size, i.bytes)) = some (some (.string ⟨#[]⟩), 1, 16) := by kernel_rfl
/-- A row of its own, as a list of texts. -/
theorem own_strs {w : World} {B : Nat} {v : Value} {T : List ByteArray} (h : w.ownsRow B 9 1 v T.length (strs T)) : ∃ ao cap, v = .slice ao T.length cap ∧ StrAt w ao T := by
  rcases h.2 with ⟨e, h0⟩ | ⟨g, cap, cur, e, hB, hg, h1, h2, h3, h4⟩
  · exact ⟨none, 0, by rw [e, h0], fun i hi => by omega⟩
  · refine ⟨_, cap, e, fun i hi => ⟨g, rfl, (Array.getElem?_eq_some_iff.1 hg).1, ?_⟩⟩
    have h5 : cur.toList[i]? = some (.string T[i]) := by
      have h6 : (cur.toList.take (T.length * 1))[i]? = (strs T)[i]? := by rw [h4]
      rw [List.getElem?_take_of_lt (by omega)] at h6
      rw [h6]
      simp [strs, hi]
    rw [World.cell?]
    simp only [hg]
    simpa using h5
/-- What is still to come of the pieces, seen from the place i, the first of them begun at f. -/
def rest (p : List UInt8) (f i : Nat) : List ByteArray := if i ≤ p.length then (pcs ((p.drop f).take (i - f)) (p.drop i)).map bs else []
theorem rest_start (p : ByteArray) (h : 1 ≤ p.size) : rest p.data.toList 1 1 = nms p := by
  unfold rest
  rw [if_pos (by rw [← Lib.size_eq]; exact h)]
  rfl
theorem rest_past (p : List UInt8) (f : Nat) : rest p f (p.length + 1) = [] := if_neg (by omega)
theorem rest_end (p : List UInt8) (f : Nat) : rest p f p.length = [bs ((p.drop f).take (p.length - f))] := by
  unfold rest
  rw [if_pos (Nat.le_refl _), List.drop_length]
  rfl
theorem rest_cut (p : List UInt8) (f i : Nat) (h : p[i]? = some 47) : rest p f i = bs ((p.drop f).take (i - f)) :: rest p (i + 1) (i + 1) := by
  have hi := (List.getElem?_eq_some_iff.1 h).1
  unfold rest
  rw [if_pos (by omega), if_pos (by omega), List.drop_eq_getElem_cons hi, (List.getElem?_eq_some_iff.1 h).2, pcs, if_pos rfl]
  simp
theorem rest_on (p : List UInt8) (f i : Nat) (c : UInt8) (h : p[i]? = some c) (hf : f ≤ i) (hc : c ≠ 47) : rest p f i = rest p f (i + 1) := by
  obtain ⟨hi, he⟩ := List.getElem?_eq_some_iff.1 h
  unfold rest
  rw [if_pos (by omega), if_pos (by omega)]
  conv => lhs; rw [List.drop_eq_getElem_cons hi, he, pcs, if_neg hc]
  have : (p.drop f).take (i - f) ++ [c] = (p.drop f).take (i + 1 - f) := by
    rw [show i + 1 - f = (i - f) + 1 from by omega, List.take_add_one]
    congr 1
    rw [List.getElem?_drop, show f + (i - f) = i from by omega, h]
    rfl
  rw [this]
theorem piece (p : ByteArray) (f i : Nat) : p.extract f i = bs ((p.data.toList.drop f).take (i - f)) := by
  rw [← bs_data (p.extract f i), Lib.extract_data]
/-- What the walk keeps: the pieces so far, in a row of its own. -/
structure Row (w : World) (B : Nat) (v : Value) (T : List ByteArray) (w' : World) : Prop where
  own : w'.ownsRow B 9 1 v T.length (strs T)
  low : Below B w w'
  size : B ≤ w'.heap.size
theorem ownB {w : World} {B e sz : Nat} {v : Value} {n : Nat} {xs : List Value} (h : w.ownsRow B e sz v n xs) {k : Nat} (hk : v.ownBlock = some k) : B ≤ k := by
  rcases h.2 with ⟨e, _⟩ | ⟨g, cap, cur, e, hB, hg, r⟩
  · rw [e] at hk; cases hk
  · rw [e] at hk
    simp only [Value.ownBlock, Option.some.injEq] at hk
    omega
theorem Row.push {w w1 w2 : World} {B : Nat} {v : Value} {T : List ByteArray} {s : ByteArray} {g cap : Nat} (h : Row w B v T w1) (hg : (w1.alloc (.cells #[.string s] 9)).grownBy w2 v.ownBlock)
    (ho : w2.ownsRow B 9 1 (.slice (some ⟨g, 0, none⟩) (T.length + 1) cap) (T.length + 1) (strs T ++ [.string s])) : Row w B (.slice (some ⟨g, 0, none⟩) (T.length + 1) cap) (T ++ [s]) w2 := by
  have h1 : Below B w (w1.alloc (.cells #[.string s] 9)) := h.low.alloc h.size _
  have hs : (w1.alloc (.cells #[.string s] 9)).heap.size = w1.heap.size + 1 := by simp
  refine ⟨by rw [List.length_append, strs_app]; exact ho, h1.trans ⟨hg.os, hg.tape, hg.output, ?_, fun k hk => hg.block k ?_ ?_⟩, ?_⟩
  · have := hg.size; have := h.size; omega
  · have := h.size; omega
  · intro e
    have := ownB h.own e.symm
    omega
  · have := hg.size; have := h.size; omega
set_option maxRecDepth 100000 in
set_option maxHeartbeats 8000000 in
theorem rsplit_any (p : ByteArray) (w : World) : Calls Tryd.prog 11 #[.string p] w fun e w' => ∃ ao cap, e = .returned (.tuple #[.slice ao (spO p).1.length cap, .int .i64 (spO p).2]) ∧ StrAt w' ao (spO p).1 ∧ Below w.heap.size w w' := by
  cases hp : Lib.hasPrefix p.data.toList [47] with
  | false =>
    have he : spO p = ([], 22) := by unfold spO; rw [if_pos (.inr hp)]
    rw [he]
    by_cases h0 : p.size = 0
    · have hz : ((p.size : Int) == 0) = true := by simpa using h0
      clear he hp h0
      go_enter Tryd.func11, Tryd.ntmps11
      go_wp2
      go_ret2
      first | exact ⟨none, 0, rfl, StrAt.nil _ _, Below.refl _ _⟩ | exact ⟨none, ⟨0, rfl⟩, StrAt.nil _ _, Below.refl _ _⟩
    · have hz : ((p.size : Int) == 0) = false := by simpa using h0
      have h1 : 0 < p.size := by omega
      have h1z : (0 : Int) < (p.size : Int) := by omega
      have hx : (((p[0]'h1).toNat : Int) != 47) = true := by
        have : p.data.toList[0]? = some (p[0]'h1) := Lib.data_getElem? p 0 h1
        have h2 : (p[0]'h1) ≠ 47 := fun e => by
          rw [e] at this
          cases hl : p.data.toList with
          | nil => rw [hl] at this; cases this
          | cons c r => rw [hl] at this hp; simp at this; subst this; cases hp
        have h3 : (p[0]'h1).toNat ≠ 47 := fun e => h2 (UInt8.toNat_inj.1 e)
        simp
        omega
      clear he hp h0
      go_enter Tryd.func11, Tryd.ntmps11
      go_wp2
      go_ret2
      first | exact ⟨none, 0, rfl, StrAt.nil _ _, Below.refl _ _⟩ | exact ⟨none, ⟨0, rfl⟩, StrAt.nil _ _, Below.refl _ _⟩
  | true =>
    have h1 : 0 < p.size := by
      rcases Nat.eq_zero_or_pos p.size with h0 | h0
      · have : p.data.toList = [] := List.length_eq_zero_iff.1 (by rw [← Lib.size_eq]; exact h0)
        rw [this] at hp
        cases hp
      · exact h0
    have hx0 : (p[0]'h1) = 47 := by
      have : p.data.toList[0]? = some (p[0]'h1) := Lib.data_getElem? p 0 h1
      cases hl : p.data.toList with
      | nil => rw [hl] at this; cases this
      | cons c r =>
        rw [hl] at this hp
        simp at this
        rw [← this]
        simp [Lib.hasPrefix, List.isPrefixOf] at hp
        exact hp.symm
    have hz0 : ((p.size : Int) == 0) = false := beq_eq_false_iff_ne.2 (by omega)
    have hz1 : (0 : Int) < (p.size : Int) := by omega
    have hx : (((p[0]'h1).toNat : Int) != 47) = false := by rw [hx0]; rfl
    by_cases h256 : 256 < p.size
    · have hz : ((256 : Int) < (p.size : Int)) := by omega
      have he : spO p = ([], 22) := by unfold spO; rw [if_pos (.inl h256)]
      rw [he]
      clear he hp h256 hx0
      go_enter Tryd.func11, Tryd.ntmps11
      go_wp2
      go_ret2
      first | exact ⟨none, 0, rfl, StrAt.nil _ _, Below.refl _ _⟩ | exact ⟨none, ⟨0, rfl⟩, StrAt.nil _ _, Below.refl _ _⟩
    have hz : ¬ ((256 : Int) < (p.size : Int)) := by omega
    by_cases hone : p.size = 1
    · have hone' : ((p.size : Int) == 1) = true := by simp [hone]
      have hpe : p = ⟨#[47]⟩ := by
        rw [← bs_data p]
        cases hl : p.data.toList with
        | nil => rw [hl] at hp; cases hp
        | cons c r =>
          have hlen := Lib.size_eq p
          rw [hl, List.length_cons] at hlen
          have hr : r = [] := List.eq_nil_of_length_eq_zero (by omega)
          rw [hl] at hp
          simp [Lib.hasPrefix, List.isPrefixOf] at hp
          rw [hr, ← hp]; rfl
      have he : spO p = ([], 0) := by unfold spO; rw [if_neg (by rw [hp]; simp [h256]), if_pos hpe]
      rw [he]
      clear he hp hpe hone h256 hx0
      go_enter Tryd.func11, Tryd.ntmps11
      go_wp2
      go_ret2
      first | exact ⟨none, 0, rfl, StrAt.nil _ _, Below.refl _ _⟩ | exact ⟨none, ⟨0, rfl⟩, StrAt.nil _ _, Below.refl _ _⟩
    have hone' : ((p.size : Int) == 1) = false := beq_eq_false_iff_ne.2 (by omega)
    have hpe : p ≠ ⟨#[47]⟩ := fun e => hone (by rw [e]; rfl)
    have HS : Hid (spO p = if 16 < (nms p).length then ([], 22) else if stat (nms p) = 0 then (nms p, 0) else ([], stat (nms p))) := Lib.hid (by
      conv => lhs; unfold spO
      rw [if_neg (by rw [hp]; simp [h256]), if_neg hpe])
    have hn : nms p = rest p.data.toList 1 1 := (rest_start p (by omega)).symm
    have HN := Lib.hid hn
    have hl : p.data.toList.length = p.size := (Lib.size_eq p).symm
    have HL := Lib.hid hl
    have h257 : p.size ≤ 256 := by omega
    clear hp hpe hone h256 hx0 hn hl
    obtain ⟨i9, hi9, hz90, hz91, hz92⟩ := info_parts info9
    go_enter Tryd.func11, Tryd.ntmps11
    go_wp2_with fail
    go_loopg [4, 5, 6] p.size (fun g vl vf vi wx => ∃ (i f : Nat) (T : List ByteArray), i + g = p.size + 1 ∧ 1 ≤ f ∧ f ≤ i ∧ vi = .int .i64 i ∧ vf = .int .i64 f ∧ Row w w.heap.size vl T wx ∧ T.length ≤ i ∧ nms p = T ++ rest p.data.toList f i)
    case atStart => exact ⟨1, 1, [], by omega, by omega, by omega, rfl, rfl, ⟨⟨rfl, .inl ⟨rfl, rfl⟩⟩, Below.refl _ _, Nat.le_refl _⟩, by simp, HN.out⟩
    case round =>
      obtain ⟨i, f, T, hig, hf1, hfi, rfl, rfl, hR, hTl, hnm⟩ := hrel
      have HR := Lib.hid hR
      have HM := Lib.hid hnm
      clear hR hnm HN
      cases gk with
      | zero =>
        obtain rfl : i = p.size + 1 := by omega
        have hiz : ¬ (((p.size + 1 : Nat) : Int) ≤ (p.size : Int)) := by omega
        have hnT : nms p = T := by rw [HM.out, ← HL.out, rest_past, List.append_nil]
        rw [hnT] at HS
        clear hnT HM
        obtain ⟨ao, cap, hv, hsT⟩ := own_strs HR.out.own
        subst hv
        have HT := Lib.hid hsT
        clear hsT
        by_cases h16 : 16 < T.length
        · have hlz : ((16 : Int) < (T.length : Int)) := by omega
          rw [if_pos h16] at HS
          clear h16
          go_wp2
          go_ret2
          first | exact ⟨none, ⟨0, by rw [HS.out]; rfl⟩, by rw [HS.out]; exact StrAt.nil _ _, HR.out.low⟩ | exact ⟨none, 0, by rw [HS.out]; rfl, by rw [HS.out]; exact StrAt.nil _ _, HR.out.low⟩
        have hlz : ¬ ((16 : Int) < (T.length : Int)) := by omega
        rw [if_neg h16] at HS
        have hT16 : T.length ≤ 16 := by omega
        clear h16 hTl
        go_wp2_with fail
        go_loopg [7] T.length (fun g v wx => ∃ k : Nat, k + g = T.length ∧ v = .int .i64 k ∧ wx = wr ∧ stat T = stat (T.drop k))
        case atStart => exact ⟨0, by omega, rfl, rfl, rfl⟩
        case round =>
          obtain ⟨k, hkg, rfl, rfl, hst⟩ := hrel
          have HK := Lib.hid hst
          clear hst
          cases gk with
          | zero =>
            obtain rfl : k = T.length := by omega
            have hkz : ¬ ((T.length : Int) < (T.length : Int)) := by omega
            have h0 : stat T = 0 := by rw [HK.out, List.drop_length]; rfl
            rw [h0, if_pos rfl] at HS
            clear h0
            go_wp2
            go_ret2
            first | exact ⟨ao, ⟨cap, by rw [HS.out]; rfl⟩, by rw [HS.out]; exact HT.out, HR.out.low⟩ | exact ⟨ao, cap, by rw [HS.out]; rfl, by rw [HS.out]; exact HT.out, HR.out.low⟩
          | succ g =>
            have hk : k < T.length := by omega
            have hkz : (k : Int) < (T.length : Int) := by omega
            obtain ⟨g', e1, e2, e3⟩ := HT.out k hk
            subst e1
            have hd : stat (T.drop k) = if ck T[k] = 0 then stat (T.drop (k + 1)) else ck T[k] := by
              rw [List.drop_eq_getElem_cons hk]; rfl
            rw [hd] at HK
            clear hd e2
            generalize T[k] = s at *
            obtain ⟨c, hc⟩ : ∃ c, ck s = c := ⟨_, rfl⟩
            rw [hc] at HK
            go_wp2_with fail
            refine (rcheck_any s _).mono ?_
            rintro e w4 ⟨rfl, rfl⟩
            rw [hc]
            clear hc
            by_cases h0 : c = 0
            · subst h0
              rw [if_pos rfl] at HK
              go_wp2
              go_roundg g
              case measure => omega
              case rel => exact ⟨k + 1, by omega, by first | rfl | simp, rfl, HK.out⟩
            · have hcz : (c != 0) = true := by simpa using h0
              rw [if_neg h0] at HK
              have H0 := Lib.hid h0
              clear h0
              go_wp2
              go_ret2
              first | exact ⟨none, ⟨0, by rw [HS.out, HK.out, if_neg H0.out]; rfl⟩, by rw [HS.out, HK.out, if_neg H0.out]; exact StrAt.nil _ _, HR.out.low⟩ | exact ⟨none, 0, by rw [HS.out, HK.out, if_neg H0.out]; rfl, by rw [HS.out, HK.out, if_neg H0.out]; exact StrAt.nil _ _, HR.out.low⟩
      | succ g =>
        have hfz : (f : Int) ≤ (i : Int) := by omega
        have hf0 : (0 : Int) ≤ (f : Int) := by omega
        by_cases his : i = p.size
        · subst his
          have hiz : ((p.size : Int) ≤ (p.size : Int)) := Int.le_refl _
          have hieq : ((p.size : Int) == (p.size : Int)) = true := by simp
          go_wp2_with (at_builtin; refine wpList_append_lies _ rfl (.tmp 42) (.tmp 47) 26 rfl w.heap.size 9 i9 _ 1 16 Tryd.underlying26 hi9 hz90 hz91 hz92 rfl (by omega) u4 _ _ rfl (HR.out.own.alloc _) ⟨wr.heap.size, 0, none⟩ 1 1 [.string (p.extract f p.size)] (by rfl) (by rfl) (World.news_of_block (cs := #[.string (p.extract f p.size)]) (t := 9) (fr := (0, 0)) (heap_alloc_new wr _)) (by simp [Value.oneCell']) (by omega) (by unfold maxLen; omega) (by omega) (by have := HR.out.size; simp; omega) (wr.heap.size + 1) (by simp) ?_; intro g' cap w1 hown1 hgrow hat hglt; have HR2 := Lib.hid (HR.out.push hgrow hown1); clear hown1 hgrow hat hglt HR)
          go_wp2
          go_roundg g
          case measure => omega
          case rel =>
            refine ⟨p.size + 1, p.size + 1, T ++ [p.extract f p.size], by omega, by omega, by omega, by first | rfl | simp, by first | rfl | simp, by simpa using HR2.out, by simp; omega, ?_⟩
            rw [HM.out, ← HL.out, rest_past, rest_end, List.append_nil, HL.out, ← piece]
        · have hi : i < p.size := by omega
          have hiz : ((i : Int) ≤ (p.size : Int)) := by omega
          have hieq : ((i : Int) == (p.size : Int)) = false := beq_eq_false_iff_ne.2 (by omega)
          have hiz2 : (i : Int) < (p.size : Int) := by omega
          have hxl : p.data.toList[i]? = some (p[i]'hi) := Lib.data_getElem? p i hi
          have HX := Lib.hid hxl
          clear hxl
          obtain ⟨c, hc⟩ : ∃ c : UInt8, p[i]'hi = c := ⟨_, rfl⟩
          rw [hc] at HX
          by_cases h47 : c = 47
          · have k1 : ((c.toNat : Int) == 47) = true := by rw [h47]; rfl
            rw [h47] at HX
            clear h47
            go_wp2_with (at_builtin; refine wpList_append_lies _ rfl (.tmp 42) (.tmp 47) 26 rfl w.heap.size 9 i9 _ 1 16 Tryd.underlying26 hi9 hz90 hz91 hz92 rfl (by omega) u4 _ _ rfl (HR.out.own.alloc _) ⟨wr.heap.size, 0, none⟩ 1 1 [.string (p.extract f i)] (by rfl) (by rfl) (World.news_of_block (cs := #[.string (p.extract f i)]) (t := 9) (fr := (0, 0)) (heap_alloc_new wr _)) (by simp [Value.oneCell']) (by omega) (by unfold maxLen; omega) (by omega) (by have := HR.out.size; simp; omega) (wr.heap.size + 1) (by simp) ?_; intro g' cap w1 hown1 hgrow hat hglt; have HR2 := Lib.hid (HR.out.push hgrow hown1); clear hown1 hgrow hat hglt HR)
            go_wp2
            go_roundg g
            case measure => omega
            case rel =>
              refine ⟨i + 1, i + 1, T ++ [p.extract f i], by omega, by omega, by omega, by first | rfl | simp, by first | rfl | simp, by simpa using HR2.out, by simp; omega, ?_⟩
              rw [HM.out, rest_cut _ _ _ HX.out, ← piece, List.append_assoc]
              rfl
          · have k1 : ((c.toNat : Int) == 47) = false := by
              have : c.toNat ≠ 47 := fun h => h47 (UInt8.toNat_inj.1 h)
              simp
              omega
            have H4 := Lib.hid h47
            clear h47
            go_wp2
            go_roundg g
            case measure => omega
            case rel => exact ⟨i + 1, f, T, by omega, by omega, by omega, by first | rfl | simp, rfl, HR.out, by omega, by rw [HM.out, rest_on _ _ _ _ HX.out hfi H4.out]⟩
end Go.Proofs.YtmmfmmjjpbfmeaaDoor
