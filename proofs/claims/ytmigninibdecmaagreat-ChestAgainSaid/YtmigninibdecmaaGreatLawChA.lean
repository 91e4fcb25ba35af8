/- ChestAgain's walk. -/
import Derived.Test.YtmigninibdecmaaGreatFat
import Derived.Deep.CutBlock
import Derived.Deep.DeepCutAuto
import Derived.Deep.Cut
import Derived.Deep.CutRange
namespace Go.Proofs.YtmigninibdecmaaGreat
open Go.RowKit
attribute [local go_sem] less_eq same_eq le_eq ge_eq gt_eq

/-- a chain that grows: so many plain batches, from a on up to at -/
structure Grow (a : Int) (i : Nat) (at' : Int) (l : List BtV) : Prop where
  chain : chainB a (l.map (·.t))
  top : topB a (l.map (·.t)) = at'
  len : l.length = i
  low : 0 ≤ a
  high : at' ≤ a + 256 * i
  tiny : ∀ x ∈ l, x.t.Tiny
  plain : ∀ x ∈ l, x.t.chgs = []
theorem Grow.start (a : Int) (h : 0 ≤ a) : Grow a 0 a [] := ⟨trivial, rfl, rfl, h, by omega, by simp, by simp⟩
theorem Grow.ge {a at' : Int} {i : Nat} {l : List BtV} (h : Grow a i at' l) : a ≤ at' := by
  have := chainB_top h.chain
  rw [h.top] at this
  exact this
theorem Grow.add {a at' : Int} {i : Nat} {l : List BtV} (h : Grow a i at' l) (s : Nat) (hs : s < 256) (ha : a < 1000) (hi : i < 100) : Grow a (i + 1) (at' + s + 1) (l ++ [plainV at' (at' + s + 1) 0]) := by
  have hge := h.ge
  have h1 := h.high
  have h2 := h.low
  refine ⟨?_, ?_, by simp [h.len], h.low, by omega, ?_, ?_⟩
  · rw [List.map_append]
    exact chainB_add h.chain (by rw [h.top]; rfl) (by rw [h.top]; show at' < at' + s + 1; omega)
  · rw [List.map_append]
    exact topB_add _ _ _
  · intro x hx
    rcases List.mem_append.1 hx with hx | hx
    · exact h.tiny x hx
    · rw [List.mem_singleton.1 hx]
      exact tiny_plain _ _ _ (by omega) (by omega) (by decide)
  · intro x hx
    rcases List.mem_append.1 hx with hx | hx
    · exact h.plain x hx
    · rw [List.mem_singleton.1 hx]
      rfl
theorem Grow.parts {a at' : Int} {i : Nat} {l : List BtV} (h : Grow a i at' l) (w : World) (B : Nat) (G : Nat → Prop) : ∀ x ∈ l, RdG encC 3 w B G x.v x.t.chgs := by
  intro x hx
  have e := h.plain x hx
  unfold BtV.v
  rw [e]
  exact RdG.none_ _ _ _ _ _

/-- the log that was laid with these -/
def agG (a : Int) (l : List BtV) : Lg := ⟨4, a, a, knownB 0 (l.map (·.t)), l.map (·.t), l.map (·.t)⟩
theorem agG_top {a at' : Int} {i : Nat} {l : List BtV} (h : Grow a i at' l) : (agG a l).top = at' := h.top
def agN (at' : Int) : Bat := ⟨at', at' + 1, 0, []⟩
theorem agG1_top (a at' : Int) (l : List BtV) : ((agG a l).add (agN at')).top = at' + 1 := topB_add _ _ _
/-- what holds ahead of each call -/
structure AgInv (w wr : World) (q b0 gn : Nat) (G : Nat → Prop) (g : Lg) (u : Nat) (fv : Value) (bs : List BtV) (at' : Int) : Prop where
  co : ChAt wr w.heap.size q G ⟨[g], 0, u, 524288⟩
  own : OwnBt wr b0 fv bs
  no : ∀ g, fv.ownBlock = some g → ¬ G g
  nx : Whole wr gn 38 [.int .i64 at', .int .i64 (at' + 1), .int .i64 0, .slice none 0 0]
  nn : ¬ G gn
  bl : Below w.heap.size w wr
theorem AgInv.moved {w wr w' : World} {q b0 gn : Nat} {G G' : Nat → Prop} {g g' : Lg} {u u' : Nat} {fv : Value} {bs : List BtV} {at' : Int} (h : AgInv w wr q b0 gn G g u fv bs at') (hc : ChAt w' w.heap.size q G' ⟨[g'], 0, u', 524288⟩) (hG : ∀ i, G' i → G i ∨ wr.heap.size ≤ i) (hm : Mv G wr w') : AgInv w w' q b0 gn G' g' u' fv bs at' :=
  ⟨hc, h.own.mv hm h.no, fun i hi hg => by
    rcases hG i hg with k | k
    · exact h.no i hi k
    · have := (Own.low h.own hi).2; omega, hm.whole h.nx h.nn, fun hg => by
    rcases hG _ hg with k | k
    · exact h.nn k
    · have := h.nx.size; omega, h.bl.trans (hm.below h.co.low.1 (fun i hi => (h.co.low.2 i hi).1))⟩
theorem AgInv.bts {w wr : World} {q b0 gn : Nat} {G : Nat → Prop} {g : Lg} {u : Nat} {fv : Value} {bs : List BtV} {at' a : Int} {i : Nat} (h : AgInv w wr q b0 gn G g u fv bs at') (hg : Grow a i at' bs) : RdBts wr wr.heap.size (fun _ => False) fv bs :=
  h.own.bts (fun _ _ e => e) (hg.parts _ _ _)

set_option maxHeartbeats 16000000 in
set_option maxRecDepth 100000 in
theorem chestAgain_walk (base : Nat) (l : List UInt8) (again : Nat) (hbs : base < 256) (_hag : again < 256) (v : Value) (w : World) (hv : RdB w w.heap.size v l) (hl : l.length < 4611686018427387904) :
    Calls Tryz.prog 5 #[.int .u8 (base : Int), v, .int .u8 (again : Int)] w fun e w' => e = .returned (.bool true) ∧ Below w.heap.size w w' := by
  obtain ⟨A, c0, rfl, hc0, hk⟩ := hv.at
  have HK := Lib.hid hk
  have HLL := Lib.hid hl
  have HN := Lib.hid (new_any 524288 (by decide) (by decide) w)
  clear hk hv hl
  go_enter Tryz.func5, Tryz.ntmps5
  go_wp2_with fail
  refine HN.out.mono ?_
  rintro e w1 ⟨p, rfl, ht, hb⟩
  have HO := Lib.hid (hopen_any 524288 (by decide) (by decide) w w1 p ht hb)
  clear HN ht hb
  go_wp2_with fail
  refine HO.out.mono ?_
  rintro e w2 ⟨q, G, rfl, hc2, hb2⟩
  have HC2 := Lib.hid hc2
  have HB2 := Lib.hid hb2
  clear hc2 hb2 HO
  go_wp2_with fail
  refine (awake_any w2).mono ?_
  rintro e w3 ⟨rfl, hb3⟩
  have hb3' := HB2.out.trans (hb3.mono HB2.out.size)
  have HC3 := Lib.hid (HC2.out.mv (Mv.of_new hb3 (fun _ => False)) (fun _ _ h => h))
  obtain ⟨w4, hw4⟩ : ∃ w4, w4 = w3.alloc (.cells #[] 38) := ⟨_, rfl⟩
  have hb4 : Below w3.heap.size w3 w4 := by rw [hw4]; exact (Below.refl _ w3).alloc (Nat.le_refl _) _
  have HO4 := Lib.hid (show OwnBt w4 w3.heap.size (.slice (some ⟨w3.heap.size, 0, none⟩) 0 0) [] from by rw [hw4]; exact Own.empty _ _ (Nat.le_refl _))
  have HB4 := Lib.hid hb4
  have HB3 := Lib.hid hb3'
  clear hb3 hb3' hb4 HC2 HB2
  have hba : 0 ≤ (base : Int) := by omega
  go_upto_block 0 with fail
  rw [← hw4]
  clear hw4
  go_cut [11, 12] (fun av fv wx => ∃ (i : Nat) (at' : Int) (F : Option Addr) (cf : Nat) (bs : List BtV), i ≤ 10 ∧ av = .int .i64 at' ∧ fv = .slice F bs.length cf ∧ OwnBt wx w3.heap.size (.slice F bs.length cf) bs ∧ Grow base i at' bs ∧ Below w3.heap.size w3 wx)
  case first =>
    go_wp2_with fail
    go_loopw [11, 12, 13] (fun av fv iv wr => ∃ (i : Nat) (at' : Int) (F : Option Addr) (cf : Nat) (bs : List BtV), i ≤ 10 ∧ iv = .int .i64 (i : Int) ∧ av = .int .i64 at' ∧ fv = .slice F bs.length cf ∧ OwnBt wr w3.heap.size (.slice F bs.length cf) bs ∧ Grow base i at' bs ∧ Below w3.heap.size w3 wr) (fun _ _ iv _ => 10 - (intOf iv).toNat)
    case atStart => exact ⟨0, base, _, 0, [], by omega, rfl, rfl, rfl, HO4.out, Grow.start _ hba, HB4.out⟩
    case round =>
      obtain ⟨i, at', F, cf, bs, hi10, rfl, rfl, rfl, hown, hgr, hbw⟩ := hrel
      have HLEN := Lib.hid hgr.len
      clear HO4 HB4
      have hbw' : Below w.heap.size w wr := HB3.out.trans (hbw.mono HB3.out.size)
      by_cases hgo : i < l.length ∧ i < 10
      case pos =>
        obtain ⟨hil, hi2⟩ := hgo
        have h1 : (i : Int) < (l.length : Int) := by omega
        have h2 : (i : Int) < 10 := by omega
        obtain ⟨b, o, rfl, hbB, hcell⟩ := HK.out i hil
        have k0 := (hbw'.cell (p := ⟨b, _, none⟩) hbB).trans hcell
        have hs := l[i].toNat_lt
        generalize l[i].toNat = s at k0 hs hcell
        have g1 := hgr.ge
        have g2 := hgr.high
        have hgr2 := Lib.hid (hgr.add s hs (by omega) (by omega))
        have HOW := Lib.hid hown
        have HBW := Lib.hid hbw
        clear hcell hown hgr hbw hbw' hbB
        obtain ⟨w5, hw5⟩ : ∃ w5, w5 = wr.alloc (.cells #[.int .i64 at', .int .i64 (at' + (s : Int) + 1), .int .i64 0, .slice none 0 0] 38) := ⟨_, rfl⟩
        have hz5 : w5.heap.size = wr.heap.size + 1 := by rw [hw5]; simp
        have hm6 : Mv (fun _ => False) wr (w5.alloc (.cells #[.int .i64 at', .int .i64 (at' + (s : Int) + 1), .int .i64 0, .slice none 0 0] 38)) := by rw [hw5]; exact ((Mv.refl _ wr).alloc _).alloc _
        have ho6 := HOW.out.mv hm6 (fun _ _ h => h)
        have hr6 := Rd.one w5 (plainV at' (at' + (s : Int) + 1) 0) 38
        have hb6 := HBW.out.trans ((Mv.below hm6 (Nat.le_refl _) (fun _ h => h.elim)).mono HBW.out.size)
        have hz6 := hb6.size
        have hlb : bs.length ≤ 10 := by have := HLEN.out; omega
        rw [hz5] at hr6
        rw [hw5] at ho6 hr6 hb6 hz6
        have HO6 := Lib.hid ho6
        have HR6 := Lib.hid hr6
        have HB6 := Lib.hid hb6
        clear ho6 hr6 hb6 hm6 hz5 hw5
        go_wp2_with (at_builtin; go_must (refine wpList_addT rfl _ _ rfl w3.heap.size (.slice F bs.length cf) bs rfl HO6.out (wr.heap.size + 1 + 1) _ [plainV at' (at' + (s : Int) + 1) 0] rfl HR6.out (by show _ + 1 ≤ _; omega) hz6 ?_))
        rintro A' c' w7 HO7 HG7 HN7
        have HB7 := Lib.hid (Own.grown HO6.out HB6.out HG7.out (Nat.le_refl _) hz6)
        clear HO6 HR6 HB6 HG7 HN7 hz6
        go_wp2_with fail
        go_roundw
        case rel => exact ⟨i + 1, at' + (s : Int) + 1, A', c', bs ++ [plainV at' (at' + (s : Int) + 1) 0], by omega, by go_num, rfl, by simp, (by rw [List.length_append]; exact HO7.out), hgr2.out, HB7.out⟩
        case measure => simp [intOf]; omega
      case neg =>
        have hex : ¬ ((i : Int) < (l.length : Int)) ∨ ((i : Int) < (l.length : Int) ∧ ¬ ((i : Int) < 10)) := by omega
        have HOW := Lib.hid hown
        have HBW := Lib.hid hbw
        have HGR := Lib.hid hgr
        clear hown hgr hbw hbw' hgo
        rcases hex with h1 | ⟨h1, h2⟩
        all_goals
          go_wp2_with fail
          go_meet
          case rel => exact ⟨i, at', F, cf, bs, hi10, rfl, rfl, HOW.out, HGR.out, HBW.out⟩
  case rest =>
  obtain ⟨i, at', F, cf, bs, hi10, rfl, rfl, hown, hgr, hbw⟩ := hcut
  have hlt : ∀ i, G i → i < w3.heap.size := fun i hi => (HC3.out.low.2 i hi).2
  have hno : ∀ g, (Value.slice F bs.length cf).ownBlock = some g → ¬ G g := fun g hg hG => by have := (Own.low hown hg).1; have := hlt g hG; omega
  have hcc := HC3.out.mv (Mv.of_new hbw (fun _ => False)) (fun _ _ h => h)
  have hbsl : bs.length ≤ 10 := by have := hgr.len; omega
  have hat : 0 ≤ at' ∧ at' < 100000 := by have := hgr.ge; have := hgr.high; omega
  have hl1 := hlay_any w.heap.size q G (Ch.new 524288) 4 (base : Int) bs (.slice F bs.length cf) wc (by decide) (by omega) hgr.tiny hgr.chain (by omega) (by unfold Ch.Spare Ch.new; simp only; omega) (Ch.end_new _ _) hcc (hown.bts (fun _ _ e => e) (hgr.parts _ _ _))
  rw [show (Ch.new 524288).lay 4 (base : Int) (bs.map (·.t)) = (0, ⟨[agG base bs], 0, 1 + (bs.map (·.t)).length, 524288⟩) from Ch.lay_first _ _ _ _ (by decide), List.length_map] at hl1
  simp only at hl1
  have HL1 := Lib.hid hl1
  have HCC := Lib.hid hcc
  have HBW := Lib.hid (HB3.out.trans (hbw.mono HB3.out.size))
  have HOW := Lib.hid hown
  have HNO := Lib.hid hno
  have HGR := Lib.hid hgr
  clear hl1 hcc hbw hown hno hgr hlt HC3 HB3 HK HLL HO4 HB4
  go_wp2_with fail
  refine HL1.out.mono ?_
  rintro e w5 ⟨G5, rfl, hc5, hG5, hm5⟩
  have ho5 := HOW.out.mv hm5 HNO.out
  have hn5 : ∀ g, (Value.slice F bs.length cf).ownBlock = some g → ¬ G5 g := fun g hg hG => by
    rcases hG5 g hG with k | k
    · exact HNO.out g hg k
    · have := (Own.low HOW.out hg).2; omega
  have hl2 := hlay_any w.heap.size q G5 _ 4 (base : Int) bs (.slice F bs.length cf) w5 (by decide) (by omega) HGR.out.tiny HGR.out.chain (by omega) (Ch.spare_mk _ _ _ _ _ (by omega)) (Ch.end_one _ _ _ _ _ (by exact Int.le_refl _)) hc5 (ho5.bts (fun _ _ e => e) (HGR.out.parts _ _ _))
  rw [show (⟨[agG base bs], 0, 1 + bs.length, 524288⟩ : Ch).lay 4 (base : Int) (bs.map (·.t)) = (0, ⟨[agG base bs], 0, 1 + bs.length + (1 + (bs.map (·.t)).length), 524288⟩) from Ch.lay_again (agG base bs) _ _ _ (by show ¬ (4 : Int) < 0; decide), List.length_map] at hl2
  simp only at hl2
  have HL2 := Lib.hid hl2
  have HC5 := Lib.hid hc5
  have HB5 := Lib.hid (HBW.out.trans (hm5.below HCC.out.low.1 (fun i hi => (HCC.out.low.2 i hi).1)))
  have HO5 := Lib.hid ho5
  have HN5 := Lib.hid hn5
  clear hl2 hc5 hG5 hm5 ho5 hn5 HL1 HCC HBW HOW HNO
  go_wp2_with fail
  refine HL2.out.mono ?_
  rintro e w6 ⟨G6, rfl, hc6, hG6, hm6⟩
  have ho6 := HO5.out.mv hm6 HN5.out
  have hn6 : ∀ g, (Value.slice F bs.length cf).ownBlock = some g → ¬ G6 g := fun g hg hG => by
    rcases hG6 g hG with k | k
    · exact HN5.out g hg k
    · have := (Own.low HO5.out hg).2; omega
  obtain ⟨gn, hgn⟩ : ∃ gn, gn = w6.heap.size := ⟨_, rfl⟩
  obtain ⟨w7, hw7⟩ : ∃ w7, w7 = w6.alloc (.cells #[.int .i64 at', .int .i64 (at' + 1), .int .i64 0, .slice none 0 0] 38) := ⟨_, rfl⟩
  have hb7 : Below w6.heap.size w6 w7 := by rw [hw7]; exact (Below.refl _ w6).alloc (Nat.le_refl _) _
  have hi7 : AgInv w w7 q w3.heap.size gn G6 (agG base bs) (1 + bs.length + (1 + bs.length)) (.slice F bs.length cf) bs at' :=
    ⟨hc6.mv (Mv.of_new hb7 (fun _ => False)) (fun _ _ h => h), ho6.mv (Mv.of_new hb7 (fun _ => False)) (fun _ _ h => h), hn6, by rw [hw7, hgn]; exact Whole.fresh w6 _ [_, _, _, _], fun hg => by have := (hc6.low.2 _ hg).2; omega,
      (HB5.out.trans (hm6.below HC5.out.low.1 (fun i hi => (HC5.out.low.2 i hi).1))).trans (hb7.mono hc6.low.1)⟩
  have HI7 := Lib.hid hi7
  clear hi7 hb7 hc6 hG6 hm6 ho6 hn6 HL2 HC5 HB5 HO5 HN5
  obtain ⟨k4, hk4⟩ : ∃ k4, k4 = again % 4 := ⟨_, rfl⟩
  have hk4' : k4 < 4 := by omega
  have hr1 : Int.tmod (again : Int) 4 = (k4 : Int) := by rw [hk4]; simp [Int.tmod]
  have hr2 : (again : Int) % 4 = (k4 : Int) := by omega
  clear hk4
  go_wp2_with fail
  rw [← hw7, ← hgn]
  clear hw7 hgn
  go_loopw [16] (fun iv wr => ∃ (i : Nat) (G : Nat → Prop) (g : Lg) (u : Nat), i ≤ k4 + 1 ∧ iv = .int .i64 (i : Int) ∧ AgInv w wr q w3.heap.size gn G g u (.slice F bs.length cf) bs at' ∧ (i = 0 → g = agG base bs) ∧ (0 < i → g = (agG base bs).add (agN at')) ∧ u ≤ 30 + 24 * i) (fun iv _ => k4 + 1 - (intOf iv).toNat)
  case atStart => exact ⟨0, G6, _, _, by omega, rfl, HI7.out, fun _ => rfl, fun h => absurd h (by omega), by omega⟩
  case round =>
    obtain ⟨i2, G7, g7, u7, hi2, rfl, hinv, hg0, hg1, hu7⟩ := hrel
    clear HI7
    by_cases hgo : i2 < k4 + 1
    case pos =>
      have hle : (i2 : Int) ≤ (k4 : Int) := by omega
      have hpr : (⟨[g7], 0, u7, 524288⟩ : Ch).push 4 (agN at') = (at' + 1, 0, ⟨[(agG base bs).add (agN at')], 0, u7 + 2, 524288⟩) := by
        by_cases h0 : i2 = 0
        · rw [hg0 h0]
          exact Ch.push_one (agG base bs) _ _ _ _ (by show ¬ (4 : Int) < 0; decide) (by rw [agG_top HGR.out]; show at' < at' + 1; omega) (agG_top HGR.out).symm (by show (bs.map (·.t)).length < 24; rw [List.length_map]; omega)
        · rw [hg1 (by omega)]
          have e := Ch.push_one_elder ((agG base bs).add (agN at')) 0 u7 524288 (agN at') (by show ¬ (4 : Int) < 0; decide) (by rw [agG1_top]; exact Int.le_refl _)
          rw [agG1_top] at e
          exact e
      have hp := hpush_any w.heap.size q G7 _ 4 (agN at') (.slice none 0 0) wr (by decide) (tiny_plain _ _ _ (by omega) (by omega) (by decide)) (Ch.spare_mk _ _ _ _ _ (by omega)) hinv.co (Rd.nil _ _) ⟨_, rfl, by by_cases h0 : i2 = 0; rw [hg0 h0]; rfl; rw [hg1 (by omega)]; rfl⟩
      rw [hpr] at hp
      unfold bval agN at hp
      simp only at hp
      have x0 := hinv.nx.cell 0 _ rfl
      have x1 := hinv.nx.cell 1 _ rfl
      have x2 := hinv.nx.cell 2 _ rfl
      have x3 := hinv.nx.cell 3 _ rfl
      have HP := Lib.hid hp
      have HINV := Lib.hid hinv
      have HU7 := Lib.hid (show u7 ≤ 30 + 24 * i2 ∧ i2 < k4 + 1 from ⟨hu7, hgo⟩)
      have hi3 : i2 ≤ 3 := by omega
      clear hp hpr hinv hg0 hg1 hu7 hgo
      go_wp2_with fail
      refine HP.out.mono ?_
      rintro e w8 ⟨G8, rfl, hc8, hG8, hm8⟩
      have HI8 := Lib.hid (HINV.out.moved hc8 hG8 hm8)
      clear hc8 hG8 hm8 HP HINV x0 x1 x2 x3 hle hi2
      go_wp2_with fail
      go_loopw [19] (fun kv wx => ∃ (k : Nat) (G : Nat → Prop) (u : Nat), k ≤ bs.length ∧ kv = .int .i64 (k : Int) ∧ AgInv w wx q w3.heap.size gn G ((agG base bs).add (agN at')) u (.slice F bs.length cf) bs at' ∧ u ≤ 32 + 24 * i2 + 2 * k) (fun kv _ => bs.length - (intOf kv).toNat)
      case atStart => exact ⟨0, G8, _, by omega, rfl, HI8.out, by have := HU7.out; omega⟩
      case round =>
        obtain ⟨k, G9, u9, hk9, rfl, hinv, hu9⟩ := hrel
        clear HI8
        by_cases hkl : k < bs.length
        case pos =>
          have h1 : (k : Int) < (bs.length : Int) := by omega
          obtain ⟨x, hx⟩ : ∃ x, x = bs[k] := ⟨_, rfl⟩
          have hxm : x ∈ bs := by rw [hx]; exact List.getElem_mem hkl
          have hxt := HGR.out.tiny x hxm
          have hxp := HGR.out.plain x hxm
          have hxv : x.t.version ≤ at' := by
            have h := (chainB_mem HGR.out.chain x.t (List.mem_map.2 ⟨x, hxm, rfl⟩)).2
            rw [HGR.out.top] at h
            exact h
          have hpr : (⟨[(agG base bs).add (agN at')], 0, u9, 524288⟩ : Ch).push 4 x.t = (at' + 1, 0, ⟨[(agG base bs).add (agN at')], 0, u9 + 2, 524288⟩) := by
            have e := Ch.push_one_elder ((agG base bs).add (agN at')) 0 u9 524288 x.t (by show ¬ (4 : Int) < 0; decide) (by rw [agG1_top]; omega)
            rw [agG1_top] at e
            exact e
          obtain ⟨gF, cF, hF, hbF, -, -⟩ : ∃ g cap, Value.slice F bs.length cf = .slice (some ⟨g, 0, none⟩) bs.length cap ∧ w3.heap.size ≤ g ∧ g < wr.heap.size ∧ bs.length ≤ cap := by
            rcases Own.form hinv.own with ⟨_, e0⟩ | h
            · rw [e0] at hkl; simp at hkl
            · exact h
          injection hF with hF1 _ hF3
          subst hF1 hF3
          have hrd := Own.rd encBt_len hinv.own
          obtain ⟨A9, c9, e9, -, hi9⟩ := hrd
          injection e9 with e91 _ e93
          subst e91 e93
          obtain ⟨b9, o9, e9, -, hc9⟩ := hi9 k hkl
          injection e9 with e9
          injection e9 with e91 e92 _
          subst e91 e92
          rw [← hx] at hc9
          have k0 := hc9 0 _ rfl
          have k1 := hc9 1 _ rfl
          have k2 := hc9 2 _ rfl
          have k3 := hc9 3 _ rfl
          simp only [Nat.zero_add, Nat.add_zero] at k0 k1 k2 k3
          have hp := hpush_any w.heap.size q G9 _ 4 x.t x.v wr (by decide) hxt (Ch.spare_mk _ _ _ _ _ (by omega)) hinv.co (by unfold BtV.v; rw [hxp]; exact Rd.none_ _ _ _ _) ⟨_, rfl, rfl⟩
          rw [hpr] at hp
          unfold bval at hp
          simp only at hp
          have HP := Lib.hid hp
          have HINV := Lib.hid hinv
          clear hp hpr hinv hi9 hc9 hxp hxt hxm hx hxv
          unfold BtV.v at k3 HP
          go_wp2_with fail
          refine HP.out.mono ?_
          rintro e w9 ⟨Ga, rfl, hca, hGa, hma⟩
          have HIa := Lib.hid (HINV.out.moved hca hGa hma)
          clear hca hGa hma HP HINV k0 k1 k2 k3
          go_wp2_with fail
          go_roundw
          case rel => exact ⟨k + 1, Ga, u9 + 2, by omega, by go_num, HIa.out, by omega⟩
          case measure => simp [intOf]; omega
        case neg =>
          have h1 : ¬ (k : Int) < (bs.length : Int) := by omega
          have HI9 := Lib.hid (show AgInv w wr q w3.heap.size gn G9 ((agG base bs).add (agN at')) u9 (.slice F bs.length cf) bs at' ∧ u9 ≤ 30 + 24 * (i2 + 1) from ⟨hinv, by omega⟩)
          clear hinv hu9 hkl hk9
          go_wp2_with fail
          go_roundw
          case rel => exact ⟨i2 + 1, G9, _, u9, by have := HU7.out; omega, by go_num, HI9.out.1, fun h => absurd h (by omega), fun _ => rfl, HI9.out.2⟩
          case measure => have := HU7.out; simp [intOf]; omega
    case neg =>
      have hi3 : i2 = k4 + 1 := by omega
      subst hi3
      have hg := hg1 (by omega)
      subst hg
      have hle : ¬ ((k4 + 1 : Nat) : Int) ≤ (k4 : Int) := by omega
      have hk := hpeek_any w.heap.size q G7 _ 4 (base : Int) 100 wr (by decide) (by omega) (by decide) hinv.co ⟨_, rfl, rfl⟩
      have hch : chainB (base : Int) ([] ++ (bs.map (·.t) ++ [agN at'])) := chainB_add HGR.out.chain (by rw [HGR.out.top]; rfl) (by rw [HGR.out.top]; show at' < at' + 1; omega)
      rw [show (⟨[(agG base bs).add (agN at')], 0, u7, 524288⟩ : Ch).peek 4 (base : Int) 100 = (bs.map (·.t) ++ [agN at'], ((agG base bs).add (agN at')).known, 0) from by
        rw [show (4 : Int) = ((agG base bs).add (agN at')).epoch from rfl, Ch.peek_one _ _ _ _ _ _ (by show (base : Int) ≤ base; omega)]
        rw [show ((agG base bs).add (agN at')).held = [] ++ (bs.map (·.t) ++ [agN at']) from rfl, show Ch.behind (base : Int) ([] ++ (bs.map (·.t) ++ [agN at'])) = bs.map (·.t) ++ [agN at'] from Ch.behind_app hch, List.take_of_length_le (by simp; omega)]] at hk
      simp only at hk
      have HP := Lib.hid hk
      have HINV := Lib.hid hinv
      have HU7 := Lib.hid hu7
      clear hk hch hinv hg0 hg1 hu7 hgo hi2
      go_wp2_with fail
      refine HP.out.mono ?_
      rintro e w8 ⟨u8, l8, rfl, hl8, hr8, hb8⟩
      have hn8 : l8.length = bs.length + 1 := by have := congrArg List.length hl8; simpa using this
      obtain ⟨A8, c8, rfl, -, -⟩ := hr8.at
      rw [hn8]
      have hi8 := HINV.out.moved (HINV.out.co.mv (Mv.of_new hb8 (fun _ => False)) (fun _ _ h => h)) (fun _ h => .inl h) (Mv.of_new hb8 G7)
      have hl := hlay_any w.heap.size q G7 _ 4 (base : Int) bs (.slice F bs.length cf) w8 (by decide) (by omega) HGR.out.tiny HGR.out.chain (by omega) (Ch.spare_mk _ _ _ _ _ (by have := HU7.out; omega)) (Ch.end_one _ _ _ _ _ (by exact Int.le_refl _)) hi8.co (hi8.bts HGR.out)
      rw [show (⟨[(agG base bs).add (agN at')], 0, u7, 524288⟩ : Ch).lay 4 (base : Int) (bs.map (·.t)) = (0, ⟨[(agG base bs).add (agN at')], 0, u7 + (1 + (bs.map (·.t)).length), 524288⟩) from Ch.lay_again ((agG base bs).add (agN at')) _ _ _ (by show ¬ (4 : Int) < 0; decide), List.length_map] at hl
      simp only at hl
      have HL := Lib.hid hl
      have HI8 := Lib.hid hi8
      clear hl hl8 hr8 hb8 hi8 hn8 HP HINV
      go_wp2_with fail
      refine HL.out.mono ?_
      rintro e w9 ⟨G9, rfl, hc9, hG9, hm9⟩
      have hi9 := HI8.out.moved hc9 hG9 hm9
      have hl := hlay_any w.heap.size q G9 _ 4 ((base : Int) + 1) [] (.slice none 0 0) w9 (by decide) (by omega) (by simp) trivial (by simp) (Ch.spare_mk _ _ _ _ _ (by have := HU7.out; simp; omega)) (Ch.end_one _ _ _ _ _ (by exact Int.le_refl _)) hi9.co (RdBts.none' w9)
      rw [List.map_nil, show (⟨[(agG base bs).add (agN at')], 0, u7 + (1 + bs.length), 524288⟩ : Ch).lay 4 ((base : Int) + 1) [] = (13, ⟨[(agG base bs).add (agN at')], 0, u7 + (1 + bs.length) + (1 + ([] : List Bat).length), 524288⟩) from Ch.lay_clash ((agG base bs).add (agN at')) _ _ _ _ _ (by show ¬ (4 : Int) < 0; decide) (by show ¬ (base : Int) = base + 1; omega)] at hl
      simp only at hl
      have HL := Lib.hid hl
      have HI9 := Lib.hid hi9
      clear hl hi9 hc9 hG9 hm9 HI8
      go_wp2_with fail
      refine HL.out.mono ?_
      rintro e wa ⟨Ga, rfl, hca, hGa, hma⟩
      have HBa := Lib.hid (HI9.out.moved hca hGa hma).bl
      clear hca hGa hma HI9 HL
      go_wp2_with fail
      go_ret
      exact ⟨rfl, HBa.out⟩
end Go.Proofs.YtmigninibdecmaaGreat
