/-
  TopEnvelope's walk: it answers true, and makes new blocks alone. Its condition: the numbers lie in memory, and there are at most 1048576 of them.
-/
import Derived.Test.YtihkjgfghjgblaaGreatDoorRM3
import Derived.Test.YtihkjgfghjgblaaGreatDoorEd
import Derived.Test.YtihkjgfghjgblaaGreatDoorFo
import Derived.Test.YtihkjgfghjgblaaGreatDoorFe
import Derived.Deep.DeepCutAuto
import Derived.Deep.QuietTactic
import Derived.BigQuiet
import Derived.WalkSmall
import Derived.Deep.CutBlock
namespace Go.Proofs.YtihkjgfghjgblaaGreatDoor
open Go.RowKit Sch
theorem below_drewN' {B : Nat} {w w' : World} (h : Below B w w') (n : Nat) : Below B w (w'.drewN n) := ⟨h.os, h.tape, h.output, h.size, h.block⟩
theorem ok9 (SB : ByteArray) : (R.Cl.mk 9 1 0 0 false 0 ⟨#[]⟩ 0 0 [] SB).ok = true := by kernel_rfl
theorem g0 : R.getO ⟨#[0, 0, 0, 1, 0, 0, 0, 0, 0, 0, 0, 7]⟩ = .ref 1 6 2 2 := by kernel_rfl
/-- What GetCall answers, said of cells, a text and a number. -/
def GcU (s : ByteArray) (cs : Array Value) (r : ByteArray) (c : Int) (w' : World) : Prop :=
  match R.getO s with
  | .err e => c = e ∧ r = ⟨#[]⟩
  | .ref xid v lo hi => c = 62 ∧ r = (R.Rp.mk xid v lo hi ⟨#[]⟩).bytes
  | .ok xid prog vers proc unix st m uid gid G args => c = 0 ∧ r = ⟨#[]⟩ ∧ ∃ vg, cs = #[.int .i64 xid, .int .i64 prog, .int .i64 vers, .int .i64 proc, .bool unix, .int .i64 st, .string m, .int .i64 uid, .int .i64 gid, vg, .string args] ∧ w'.ownsRow 0 3 1 vg G.length (R.ints G)
theorem getCall_u (s : ByteArray) (w : World) : Calls Tryz.prog 4 #[.string s] w fun e w' => ∃ cs r c, e = .returned (.tuple #[.agg cs, .string r, .int .i64 c]) ∧ cs.size = 11 ∧ cs.all (·.oneCell') = true ∧ Below w.heap.size w w' ∧ GcU s cs r c w' := by
  have h := R.getCall_any s w
  unfold GcU
  generalize R.getO s = g at *
  refine h.mono ?_
  cases g with
  | err e =>
    rintro r w2 ⟨rfl, hB⟩
    exact ⟨_, _, _, rfl, rfl, by simp [Value.oneCell'], hB, rfl, rfl⟩
  | ref xid v lo hi =>
    rintro r w2 ⟨rfl, hB⟩
    exact ⟨_, _, _, rfl, rfl, by simp [Value.oneCell'], hB, rfl, rfl⟩
  | ok xid prog vers proc unix st m uid gid G args =>
    rintro r w2 ⟨vg, rfl, ho, hB⟩
    obtain ⟨ao, cap, rfl, _⟩ := R.ints_of_own ho
    exact ⟨_, _, _, rfl, rfl, by simp [Value.oneCell'], hB, rfl, rfl, _, rfl, ho⟩
theorem own_setRow {w : World} {C : Nat} {a b : Array Value} {fr : Nat × Nat} {B n : Nat} {vg : Value} {xs : List Value} (h : w.ownsRow B 3 1 vg n xs) (hc : w.heap[C]? = some (.cells a 26 fr)) : (w.setRow C b).ownsRow B 3 1 vg n xs :=
  ownsB_kept h fun k e => by
    obtain ⟨_, cur, hk⟩ := ownsB_type h e
    exact setRow_other w C k b (fun e2 => by subst e2; exact absurd (blk_type hk hc) (by decide))
theorem below_row {w0 w : World} {C : Nat} {b : Array Value} (h : Below w0.heap.size w0 w) (hC : w0.heap.size ≤ C) : Below w0.heap.size w0 (w.setRow C b) :=
  ⟨h.os, h.tape, h.output, by have := h.size; simpa [World.setRow] using this, fun k hk => (setRow_other w C k b (by omega)).trans (h.block k hk)⟩
theorem row_at {w : World} {C : Nat} {a b : Array Value} {fr : Nat × Nat} (hc : w.heap[C]? = some (.cells a 26 fr)) : (w.setRow C b).heap[C]? = some (.cells b 26 fr) := by
  simp [World.setRow, Array.getElem?_modify, hc]
theorem its_of {w : World} {B : Nat} {v : Value} {n : List Int} (h : w.ownsRow B 3 1 v n.length (ints n)) : ∃ ao c, v = .slice ao n.length c ∧ ItsAt w.heap.size w ao n ∧ n.length ≤ c ∧ c ≤ 9223372036854775807 := by
  have hh := h
  rcases h.2 with ⟨e, e2⟩ | ⟨g, cap, cur, e, _, hg, hc, hm, _⟩
  · exact ⟨none, 0, by rw [e, e2], fun i hi => by omega, by omega, by omega⟩
  · subst e
    refine ⟨_, cap, rfl, fun i hi => ⟨g, 0, rfl, (Array.getElem?_eq_some_iff.1 hg).1, ?_⟩, hc, by unfold maxLen at hm; omega⟩
    have := cellAt0 hh i (.int .i64 n[i]) (by simp [ints, hi])
    simpa using this
set_option maxRecDepth 100000 in
set_option maxHeartbeats 40000000 in
theorem envelope_walk (s : ByteArray) (f : List UInt8) (n : List Int) (aN : Option Addr) (cN : Nat) (w : World) (hN : ItsAt w.heap.size w aN n) (hcn : n.length ≤ cN ∧ cN ≤ 9223372036854775807) (hl : n.length ≤ 1048576) :
    Calls Tryz.prog 3 #[.string s, .string ⟨f.toArray⟩, .slice aN n.length cN] w fun e w' => e = .returned (.bool true) ∧ Below w.heap.size w w' := by
  have HIN := Lib.hid hN
  have HIR := Lib.hid (show R.IntsAt w aN n from fun i hi => hN i hi)
  have HCN := Lib.hid hcn
  have HL := Lib.hid hl
  clear hN hcn hl
  obtain ⟨S, hS⟩ : ∃ S : ByteArray, S = ⟨f.toArray⟩ := ⟨_, rfl⟩
  rw [← hS]
  have HS := Lib.hid hS
  clear hS
  go_enter Tryz.func3, Tryz.ntmps3
  go_wp2_with fail
  have h0 := R.getCall_any ⟨#[0, 0, 0, 1, 0, 0, 0, 0, 0, 0, 0, 7]⟩ w
  rw [g0] at h0
  refine h0.mono ?_
  clear h0
  rintro e w1 ⟨rfl, hb⟩
  have HB1 := Lib.hid hb
  clear hb
  obtain ⟨q1, -, -⟩ := R.refs_get g0
  generalize (R.Rp.mk 1 6 2 2 ⟨#[]⟩).bytes = T0 at *
  have HC0 := Lib.hid (heap_alloc_new w1 (.cells #[.int .i64 0, .int .i64 0, .int .i64 0, .int .i64 0, .bool false, .int .i64 0, .string ⟨#[]⟩, .int .i64 0, .int .i64 0, .slice none 0 0, .string ⟨#[]⟩] 26))
  have HB2 := Lib.hid (HB1.out.alloc HB1.out.size (.cells #[.int .i64 0, .int .i64 0, .int .i64 0, .int .i64 0, .bool false, .int .i64 0, .string ⟨#[]⟩, .int .i64 0, .int .i64 0, .slice none 0 0, .string ⟨#[]⟩] 26))
  have hlt : w1.heap.size < (w1.alloc (.cells #[.int .i64 0, .int .i64 0, .int .i64 0, .int .i64 0, .bool false, .int .i64 0, .string ⟨#[]⟩, .int .i64 0, .int .i64 0, .slice none 0 0, .string ⟨#[]⟩] 26)).heap.size := by simp
  go_wp2_with fail
  generalize w1.alloc (.cells #[.int .i64 0, .int .i64 0, .int .i64 0, .int .i64 0, .bool false, .int .i64 0, .string ⟨#[]⟩, .int .i64 0, .int .i64 0, .slice none 0 0, .string ⟨#[]⟩] 26) = w2 at *
  have HCw := Lib.hid HB1.out.size
  clear HB1
  generalize w1.heap.size = C at *
  refine (R.getReply_n T0 w2 1 6 2 2 ⟨#[]⟩ 0 q1).mono ?_
  rintro e w3 ⟨rfl, hb⟩
  have HC3 := Lib.hid ((hb.block C hlt).trans HC0.out)
  have HB3 := Lib.hid (HB2.out.trans (hb.mono HB2.out.size))
  clear hb hlt HC0 HB2 q1
  obtain ⟨c0, hclt⟩ : w3.cell? ⟨C, 0, none⟩ = some (.int .i64 0) ∧ C < w3.heap.size := ⟨by rw [cell_of_row w3 C _ _ _ _ HC3.out]; rfl, (Array.getElem?_eq_some_iff.1 HC3.out).1⟩
  go_wp2_with fail
  have HC4 := Lib.hid ((Below.heap_alloc w3 (.cells #[.int .i64 1, .int .i64 6, .int .i64 2, .int .i64 2, .string ⟨#[]⟩] 31) _ hclt).trans HC3.out)
  have HB4 := Lib.hid (HB3.out.alloc HB3.out.size (.cells #[.int .i64 1, .int .i64 6, .int .i64 2, .int .i64 2, .string ⟨#[]⟩] 31))
  clear c0 HC3 HB3
  generalize hW4 : w3.alloc (.cells #[.int .i64 1, .int .i64 6, .int .i64 2, .int .i64 2, .string ⟨#[]⟩] 31) = w4 at *
  have hclt4 : C < w4.heap.size := (Array.getElem?_eq_some_iff.1 HC4.out).1
  clear hW4 hclt
  refine (getCall_u s w4).mono ?_
  rintro e w5 ⟨cs, r, c, rfl, hsz, hall, hb, hU⟩
  have HC5 := Lib.hid ((hb.block C hclt4).trans HC4.out)
  have HB5 := Lib.hid (HB4.out.trans (hb.mono HB4.out.size))
  have HSZ := Lib.hid hsz
  have HALL := Lib.hid hall
  have HU := Lib.hid hU
  clear hb hsz hall hU hclt4 HC4 HB4
  go_upto_block 0 with (refine wpList_store_row rfl 26 _ _ rfl C cs rfl rfl 26 _ HC5.out (by rw [HSZ.out]; kernel_rfl) (by rw [HSZ.out]; rfl) HALL.out ?_)
  have HC6 := Lib.hid (row_at (b := cs) HC5.out)
  have HB6 := Lib.hid (below_row (b := cs) HB5.out HCw.out)
  have HU6 := Lib.hid (show GcU s cs r c (w5.setRow C cs) by
    have hu := HU.out
    unfold GcU at hu ⊢
    split at hu
    · exact hu
    · exact hu
    · obtain ⟨h1, h2, vg, h3, h4⟩ := hu
      exact ⟨h1, h2, vg, h3, own_setRow h4 HC5.out⟩)
  clear HC5 HB5 HU HSZ HALL
  generalize w5.setRow C cs = w6 at *
  go_cut [] (fun wc => Below w.heap.size w wc)
  case first =>
    have hu := HU6.out
    unfold GcU at hu
    cases hg : R.getO s with
    | err e =>
      rw [hg] at hu
      obtain ⟨rfl, rfl⟩ := hu
      have h0 : (c == 0) = false := by simpa using R.getO_err0 hg
      have h62 : (c == 62) = false := by simpa using R.getO_err hg
      clear hg HU6
      go_wp2
      go_meet
      exact HB6.out
    | ref xid v lo hi =>
      rw [hg] at hu
      obtain ⟨rfl, rfl⟩ := hu
      obtain ⟨q1, q2, q3⟩ := R.refs_get hg
      obtain ⟨h8, _, hx, hr⟩ := R.get_refs hg
      generalize (R.Rp.mk xid v lo hi ⟨#[]⟩).bytes = T at *
      have Q1 := Lib.hid q1
      have Q2 := Lib.hid q2
      have HR := Lib.hid hr
      clear q1 q2 hr hg HU6
      go_wp2_with fail
      refine (R.getReply_n T _ xid v lo hi ⟨#[]⟩ 0 Q1.out).mono ?_
      rintro r w7 ⟨rfl, hb⟩
      have HB7 := Lib.hid (HB6.out.trans (hb.mono HB6.out.size))
      clear hb HB6
      have hd4 : decide ((s.size : Int) < 4) = false := decide_eq_false (by omega)
      have ht4 : decide ((T.size : Int) < 4) = false := decide_eq_false (by omega)
      have hv0 : (v == 0) = false := by have := HR.out; unfold R.Refs at this; simp; omega
      have h4s : 4 ≤ s.size := by omega
      have h4i : (4 : Int) ≤ (s.size : Int) := by omega
      have h4t : (4 : Int) ≤ (T.size : Int) := by omega
      have hq2 := Q2.out
      go_wp2_with fail
      go_quiet (fail)
      go_wp2
      go_meet
      exact below_drewN' (HB7.out.alloc HB7.out.size _) _
    | ok xid prog vers proc unix st m uid gid G args =>
      rw [hg] at hu
      obtain ⟨rfl, rfl, vg, rfl, ho⟩ := hu
      obtain ⟨ao, cap, rfl, hI, hc1, hao⟩ := R.ints_of_own ho
      obtain ⟨k1, k2, k3⟩ := R.getO_took hg
      obtain ⟨k4, k5⟩ := R.grp_small hg
      have HK := Lib.hid (And.intro k1 (And.intro k2 k3))
      have HI := Lib.hid hI
      have HAO := Lib.hid hao
      clear hg HU6 ho hI hao k1 k2 k3
      go_wp2_with (refine wpList_load_row rfl 26 _ rfl C rfl 26 _ (0, 0) _ HC6.out Tryz.underlying26 rfl (by kernel_rfl) ?_)
      refine (R.put_back ⟨xid, prog, vers, proc, unix, st, m, uid, gid, G, args⟩ ao cap w6 HI.out HAO.out (by show G.length ≤ _; omega) (by show args.size ≤ _; omega) HK.out.1 s HK.out.2.1 HK.out.2.2).mono ?_
      rintro e w7 ⟨rfl, hb⟩
      have HB7 := Lib.hid (HB6.out.trans (hb.mono HB6.out.size))
      clear hb HB6 HK HI HAO
      go_wp2
      go_meet
      exact HB7.out
  case rest =>
  have HB7 := Lib.hid hcut
  clear hcut HB6 HU6 HC6 HCw
  go_upto_region 18 with (refine R.list_app rfl (.tmp 111) (.tmp 112) rfl wc.heap.size _ [] rfl (R.own_empty (heap_alloc_new wc _) (Nat.le_refl _)) aN n cN rfl (R.IntsAt.below (R.IntsAt.below HIR.out HB7.out) ((Below.refl _ wc).alloc (Nat.le_refl _) _)) (by simp; have := HL.out; omega) (by simp) ?_; intro v1 w8 hT1; obtain ⟨io, icap, hv1, hI1, hc1, hc2⟩ := R.own_form hT1.own; subst hv1)
  have hB8 := hT1.below (R.own_empty (B := wc.heap.size) (heap_alloc_new wc _) (Nat.le_refl _)) ((Below.refl _ wc).alloc (Nat.le_refl _) _) (Nat.le_refl _)
  have HB8 := Lib.hid (HB7.out.trans (hB8.mono HB7.out.size))
  have HI8 := Lib.hid hI1
  clear hT1 hB8 hI1 HB7
  rw [List.nil_append] at HI8 hc1
  go_upto_region 18 with (fail)
  have hb9 := (Below.refl w8.heap.size w8).alloc (Nat.le_refl _) (.cells #[.slice io n.length icap, .slice none 0 0] 38)
  have HB9 := Lib.hid (HB8.out.trans (hb9.mono HB8.out.size))
  have HI9 := Lib.hid (HI8.out.below hb9)
  clear hb9 HB8 HI8
  go_wp2_with fail
  generalize w8.alloc (.cells #[.slice io n.length icap, .slice none 0 0] 38) = w9 at *
  generalize w8.heap.size = U at *
  obtain ⟨x, hx⟩ : ∃ x, encO f n [] = x := ⟨_, rfl⟩
  have henc := encode_any f n [] io icap none 0 w9 (fun i hi => HI9.out i hi) (fun i hi => absurd hi (by simp)) ⟨hc1, hc2⟩ (by simp) (by have := HL.out; unfold worth; simp; omega) x hx
  rw [← HS.out] at henc
  refine henc.mono ?_
  clear henc
  have HX := Lib.hid hx
  clear hx
  cases x with
  | error e =>
    rintro r w10 ⟨hb, rfl⟩
    have he : (e != 0) = true := by simpa using enc_err HX.out
    have HB10 := Lib.hid (HB9.out.trans (hb.mono HB9.out.size))
    clear hb HB9 HI9
    go_wp2
    go_ret
    exact ⟨rfl, HB10.out⟩
  | ok b =>
    rintro r w10 ⟨hb, rfl⟩
    have HB10 := Lib.hid (HB9.out.trans (hb.mono HB9.out.size))
    clear hb HB9 HI9
    obtain ⟨hdec, hb65⟩ := enc_dec HX.out
    have hb4 := enc_four HX.out
    obtain ⟨SB, hSB⟩ : ∃ SB : ByteArray, SB = ⟨b.toArray⟩ := ⟨_, rfl⟩
    have hsz : SB.size = b.length := by rw [hSB]; show b.toArray.size = _; simp
    rw [← hSB] at hdec ⊢
    have HD := Lib.hid hdec
    clear hdec HX hSB
    by_cases hbig : 60000 < SB.size
    · have hd : decide ((60000 : Int) < (SB.size : Int)) = true := decide_eq_true (by omega)
      go_wp2
      go_ret
      exact ⟨rfl, HB10.out⟩
    · have hd : decide ((60000 : Int) < (SB.size : Int)) = false := decide_eq_false (by omega)
      have hok : (R.Cl.mk 9 1 0 0 false 0 ⟨#[]⟩ 0 0 [] SB).ok = true := ok9 SB
      have hhl : (R.Cl.mk 9 1 0 0 false 0 ⟨#[]⟩ 0 0 [] SB).head.length = 40 := by
        rw [← R.plain_head _ rfl]; exact R.headP_length _
      have hrc : R.restC (R.Cl.mk 9 1 0 0 false 0 ⟨#[]⟩ 0 0 [] SB).head SB = 0 := by
        unfold R.restC
        rw [hhl, if_neg (by omega)]
      have hgo := R.getO_put (R.Cl.mk 9 1 0 0 false 0 ⟨#[]⟩ 0 0 [] SB) hok hrc
      obtain ⟨T, hT⟩ : ∃ T, R.restS (R.Cl.mk 9 1 0 0 false 0 ⟨#[]⟩ 0 0 [] SB).head SB = T := ⟨_, rfl⟩
      dsimp only at hgo
      rw [hT] at hgo
      have HGO := Lib.hid hgo
      have HRC := Lib.hid hrc
      have HT := Lib.hid hT
      clear hgo hrc hT hhl hok
      go_wp2_with fail
      refine (R.put_back ⟨9, 1, 0, 0, false, 0, ⟨#[]⟩, 0, 0, [], SB⟩ none 0 w10 (fun i hi => absurd hi (by simp)) (fun g off h => by cases h) (by simp) (by show SB.size ≤ _; omega) (ok9 SB) T HRC.out HT.out).mono ?_
      rintro e w11 ⟨rfl, hb⟩
      have HB11 := Lib.hid (HB10.out.trans (hb.mono HB10.out.size))
      clear hb HB10 HRC HT
      go_wp2_with fail
      have h := R.getCall_any T w11
      rw [HGO.out] at h
      refine h.mono ?_
      clear h HGO
      rintro e w12 ⟨vg, rfl, ho, hb⟩
      obtain ⟨ga, gc, rfl, -⟩ := R.ints_of_own ho
      have HB12 := Lib.hid (HB11.out.trans (hb.mono HB11.out.size))
      clear hb HB11 ho
      go_wp2_with fail
      have HB13 := Lib.hid (HB12.out.alloc HB12.out.size (.cells #[.int .i64 9, .int .i64 1, .int .i64 0, .int .i64 0, .bool false, .int .i64 0, .string ⟨#[]⟩, .int .i64 0, .int .i64 0, .slice ga 0 gc, .string SB] 26))
      clear HB12
      generalize w12.alloc (.cells #[.int .i64 9, .int .i64 1, .int .i64 0, .int .i64 0, .bool false, .int .i64 0, .string ⟨#[]⟩, .int .i64 0, .int .i64 0, .slice ga 0 gc, .string SB] 26) = w13 at *
      have hdc := decode_any f SB w13 _ HD.out
      rw [← HS.out] at hdc
      refine hdc.mono ?_
      clear hdc HD
      rintro e w14 ⟨hb, vN, vT, rfl, hvN, hvT⟩
      obtain ⟨tT, tc, rfl⟩ : ∃ a c, vT = .slice a 0 c := by
        rcases hvT.2 with ⟨e, _⟩ | ⟨g, cap, cur, e, _⟩
        · exact ⟨_, _, e⟩
        · exact ⟨_, _, e⟩
      clear hvT
      obtain ⟨uN, uc, rfl, iU, u1, u2⟩ := its_of hvN
      have HB14 := Lib.hid (HB13.out.trans (hb.mono HB13.out.size))
      have hb15 := (Below.refl w14.heap.size w14).alloc (Nat.le_refl _) (.cells #[.slice uN n.length uc, .slice tT 0 tc] 38)
      have HB15 := Lib.hid (HB14.out.trans (hb15.mono HB14.out.size))
      have HU15 := Lib.hid (show R.IntsAt (w14.alloc (.cells #[.slice uN n.length uc, .slice tT 0 tc] 38)) uN n from R.IntsAt.below (fun i hi => iU i hi) hb15)
      have HN15 := Lib.hid (show R.IntsAt (w14.alloc (.cells #[.slice uN n.length uc, .slice tT 0 tc] 38)) aN n from R.IntsAt.below (R.IntsAt.below HIR.out HB14.out) hb15)
      have HV15 := Lib.hid (heap_alloc_new w14 (.cells #[.slice uN n.length uc, .slice tT 0 tc] 38))
      clear hb hb15 hvN iU HB13 HB14
      go_upto_region 24 with (fail)
      generalize w14.alloc (.cells #[.slice uN n.length uc, .slice tT 0 tc] 38) = w15 at *
      generalize w14.heap.size = D at *
      have hcD : w15.cell? ⟨D, 0, none⟩ = some (.slice uN n.length uc) := by rw [cell_of_row w15 D _ _ _ _ HV15.out]; rfl
      have HCD := Lib.hid hcD
      go_wp2_with fail
      go_loopw [26] (fun i wr => ∃ k : Nat, k ≤ n.length ∧ i = .int .i64 k ∧ ∃ q, wr = w15.drewN q) (fun i _ => n.length - (intOf i).toNat)
      case atStart => exact ⟨0, by omega, rfl, 0, rfl⟩
      case round =>
        obtain ⟨k, hk, rfl, q, rfl⟩ := hrel
        by_cases hlt : k < n.length
        · obtain ⟨g1, o1, e1, l1, f1⟩ := HU15.out k hlt
          obtain ⟨g2, o2, e2, l2, f2⟩ := HN15.out k hlt
          have hd : decide ((k : Int) < (n.length : Int)) = true := decide_eq_true (by omega)
          generalize n[k] = z at *
          subst e1 e2
          have f1' : (w15.drewN q).cell? ⟨g1, o1 + k, none⟩ = some (.int .i64 z) := f1
          have f2' : (w15.drewN q).cell? ⟨g2, o2 + k, none⟩ = some (.int .i64 z) := f2
          have hcD' : (w15.drewN q).cell? ⟨D, 0, none⟩ = some (.slice (some ⟨g1, o1, none⟩) n.length uc) := hcD
          have hcn1 := HCN.out.1
          go_wp2_with fail
          go_quiet (fail)
          go_wp2
          exact ⟨⟨k + 1, by omega, by go_num, _, rfl⟩, by simp [intOf]; omega⟩
        · have hd : decide ((k : Int) < (n.length : Int)) = false := decide_eq_false (by omega)
          go_wp2
          go_ret
          exact ⟨rfl, below_drewN' HB15.out _⟩
end Go.Proofs.YtihkjgfghjgblaaGreatDoor
