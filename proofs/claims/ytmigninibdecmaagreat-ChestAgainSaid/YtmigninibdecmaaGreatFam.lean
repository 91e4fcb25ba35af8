/- A log's top; what it has behind a version. The reference's small functions: numbers and changes behind bytes; whether a transaction, a batch, a state is sound. The reference's reader: numbers, texts, changes. The program's Encode, PutTxn, PutBatch, PutState. The program's PutTxn, PutBatch, PutState. Copies of batches, as the program makes them; which may be kept. Which batches may be kept; a record as bytes. -/
import Derived.Test.YtmigninibdecmaaGreatFal
import Derived.Test.YtmigninibdecmaaGreatFaf
import Derived.Test.YtmigninibdecmaaGreatFad
import Derived.Test.YtmigninibdecmaaGreatFak
namespace Go.Proofs.YtmigninibdecmaaGreat
open Go.RowKit
attribute [local go_sem] less_eq same_eq le_eq ge_eq gt_eq

theorem topB_last (B : Int) (l : List Bat) (n : Nat) (h : l.length = n + 1) : topB B l = (l[n]'(by omega)).version := by
  unfold topB
  rw [List.getLast?_eq_getElem?, show l.length - 1 = n by omega, List.getElem?_eq_getElem (by omega)]
theorem RdT.at {w : World} {B : Nat} {G : Nat → Prop} {v : Value} {l : List BtV} (h : RdG encBt 4 w B G v l) : ∃ A c, v = .slice A l.length c ∧ l.length ≤ c ∧ ∀ i (_ : i < l.length), ∃ b o, A = some ⟨b, o, none⟩ ∧ b < B ∧ ¬ G b ∧
    ∀ W : World, W.heap[b]? = w.heap[b]? → W.cell? ⟨b, o + i * 4, none⟩ = some (.int .i64 l[i].t.prev) ∧ W.cell? ⟨b, o + i * 4 + 1, none⟩ = some (.int .i64 l[i].t.version) ∧ W.cell? ⟨b, o + i * 4 + 2, none⟩ = some (.int .i64 l[i].t.known) ∧ W.cell? ⟨b, o + i * 4 + 3, none⟩ = some l[i].v := by
  obtain ⟨A, c, hv, hc, hi⟩ := h
  refine ⟨A, c, hv, hc, fun i hs => ?_⟩
  obtain ⟨b, o, hA, hB, hg, h1⟩ := hi i hs
  exact ⟨b, o, hA, hB, hg, fun W hW => ⟨(World.cell?_of_block hW).trans (h1 0 _ rfl), (World.cell?_of_block hW).trans (h1 1 _ rfl), (World.cell?_of_block hW).trans (h1 2 _ rfl), (World.cell?_of_block hW).trans (h1 3 _ rfl)⟩⟩
theorem RdT.next {w w' : World} {G : Nat → Prop} {v : Value} {l : List BtV} (h : RdG encBt 4 w w.heap.size G v l) (hb : Below w.heap.size w w') : RdG encBt 4 w' w'.heap.size G v l := (h.mv (Mv.of_new hb G) (Nat.le_refl _) (fun _ _ h => h)).mono hb.size (fun _ _ h => h)
set_option maxHeartbeats 2000000 in
set_option maxRecDepth 100000 in
theorem hlast_any (B : Int) (l : List BtV) (v : Value) (G : Nat → Prop) (w : World) (hv : RdG encBt 4 w w.heap.size G v l) (hl : l.length < 4611686018427387904) :
    Calls Tryz.prog 67 #[.int .i64 B, v] w fun e w' => e = .returned (.int .i64 (topB B (l.map (·.t)))) ∧ w' = w := by
  obtain ⟨A, c, rfl, hc, hcell⟩ := RdT.at hv
  clear hv
  cases hln : l.length with
  | zero =>
    have : l = [] := List.eq_nil_of_length_eq_zero hln
    subst this
    clear hcell
    go_enter Tryz.func67, Tryz.ntmps67
    go_wp2_with fail
    go_ret
    exact ⟨rfl, rfl⟩
  | succ n =>
    rw [topB_last B (l.map (·.t)) n (by rw [List.length_map]; exact hln), List.getElem_map]
    obtain ⟨b, o, rfl, -, -, h1⟩ := hcell n (by omega)
    obtain ⟨-, k1, -, -⟩ := h1 w rfl
    generalize l[n].t.version = V at k1 ⊢
    obtain ⟨N, hN⟩ : ∃ N, N = n + 1 := ⟨_, rfl⟩
    rw [← hN]
    have hw1 : IntKind.i64.wrap ((N : Int) - 1) = (n : Int) := by rw [IntKind.wrap_i64]; omega
    have hb1 : (n : Int) < (N : Int) := by omega
    have hb2 : ((N : Int) == 0) = false := by simp; omega
    clear hN hln hc hcell h1 hl
    go_enter Tryz.func67, Tryz.ntmps67
    go_wp2_with fail
    go_ret
    exact ⟨rfl, rfl⟩
set_option maxHeartbeats 2000000 in
set_option maxRecDepth 100000 in
theorem htop_any (K E B N : Int) (F : Option Addr) (fl nf : Nat) (go kn : Int) (l : List BtV) (H : Option Addr) (nh : Nat) (G : Nat → Prop) (w : World) (hv : RdG encBt 4 w w.heap.size G (.slice H l.length nh) l) (hl : l.length < 4611686018427387904) :
    Calls Tryz.prog 35 #[lgv K E B N (.slice F fl nf) go kn (.slice H l.length nh)] w fun e w' => e = .returned (.int .i64 (topB go (l.map (·.t)))) ∧ Below w.heap.size w w' := by
  obtain ⟨w1, hw1⟩ : ∃ w1, w1 = w.alloc (.cells #[.int .i64 K, .int .i64 E, .int .i64 B, .int .i64 N, .slice F fl nf, .int .i64 go, .int .i64 kn, .slice H l.length nh] 73) := ⟨_, rfl⟩
  have hb1 : Below w.heap.size w w1 := by rw [hw1]; exact (Below.refl _ w).alloc (Nat.le_refl _) _
  have HL := Lib.hid (hlast_any go l (.slice H l.length nh) G w1 (RdT.next hv hb1) hl)
  have HB1 := Lib.hid hb1
  generalize topB go (l.map (·.t)) = T at HL ⊢
  unfold lgv
  clear hv hb1
  go_enter Tryz.func35, Tryz.ntmps35
  go_wp2_with fail
  rw [← hw1]
  clear hw1
  refine HL.out.mono ?_
  rintro e w2 ⟨rfl, rfl⟩
  go_wp2_with fail
  go_ret
  exact ⟨rfl, HB1.out⟩
set_option maxHeartbeats 2000000 in
set_option maxRecDepth 100000 in
theorem hbeh1_any (t : Bat) (A : Option Addr) (n c : Nat) (g : Nat) (V : Int) (w : World) (h : w.cell? ⟨g, 0, none⟩ = some (.int .i64 V)) (hg : g < w.heap.size) :
    Calls Tryz.prog 69 #[bval t (.slice A n c), .pointer (some ⟨g, 0, none⟩)] w fun e w' => e = .returned (.bool (decide (V < t.version))) ∧ Below w.heap.size w w' := by
  obtain ⟨p, v, k, cs⟩ := t
  unfold bval
  have h1 : (w.alloc (.cells #[.int .i64 p, .int .i64 v, .int .i64 k, .slice A n c] 38)).cell? ⟨g, 0, none⟩ = some (.int .i64 V) := (((Below.refl w.heap.size w).alloc (Nat.le_refl _) _).cell (p := ⟨g, 0, none⟩) hg).trans h
  clear h
  go_enter Tryz.func69, Tryz.ntmps69
  go_wp2_with fail
  go_ret
  exact ⟨rfl, (Below.refl _ w).alloc (Nat.le_refl _) _⟩
/-- how many are not behind it -/
def upto (V : Int) (l : List BtV) : Nat := ((l.map (·.t)).takeWhile fun b => b.version ≤ V).length
theorem upto_le (V : Int) (l : List BtV) : upto V l ≤ l.length := by
  have h := (List.takeWhile_sublist (l := l.map (·.t)) (fun b : Bat => decide (b.version ≤ V))).length_le
  rw [List.length_map] at h
  exact h
theorem upto_drop (V : Int) (l : List BtV) : (l.drop (upto V l)).map (·.t) = behindP V (l.map (·.t)) := by
  rw [behindP_drop, List.map_drop]
  rfl
theorem upto_go (V : Int) (l : List BtV) (i : Nat) (hi : i < l.length) (h : ∀ t (_ : t < l.length), t < i → l[t].t.version ≤ V) (h1 : V < l[i].t.version) : upto V l = i := by
  unfold upto
  induction l generalizing i with
  | nil => simp at hi
  | cons x l ih =>
    rw [List.map_cons, List.takeWhile_cons]
    match i with
    | 0 =>
      rw [if_neg (by simpa using h1)]
      rfl
    | i + 1 =>
      have h0 := h 0 (by simp) (by omega)
      rw [if_pos (by simp only [decide_eq_true_eq]; simp only [List.getElem_cons_zero] at h0; exact h0), List.length_cons]
      rw [ih i (by simpa using hi) (fun t ht hlt => by have := h (t + 1) (by simpa using ht) (by omega); simpa using this) (by simpa using h1)]
theorem upto_all (V : Int) (l : List BtV) (h : ∀ t (_ : t < l.length), l[t].t.version ≤ V) : upto V l = l.length := by
  unfold upto
  induction l with
  | nil => rfl
  | cons x l ih =>
    have h0 := h 0 (by simp)
    simp only [List.getElem_cons_zero] at h0
    rw [List.map_cons, List.takeWhile_cons, if_pos (by simpa using h0), List.length_cons, List.length_cons, ih (fun t ht => by have := h (t + 1) (by simpa using ht); simpa using this)]

set_option maxHeartbeats 4000000 in
set_option maxRecDepth 100000 in
theorem bindex_any (l : List BtV) (V : Int) (g0 : Nat) (v : Value) (G : Nat → Prop) (w : World) (hv : RdBts w w.heap.size G v l) (hc0 : w.cell? ⟨g0, 0, none⟩ = some (.int .i64 V)) (hg0 : g0 < w.heap.size) (hl : l.length < 4611686018427387904) :
    Calls Tryz.prog 68 #[v, .func (.func 69) #[] #[.pointer (some ⟨g0, 0, none⟩)]] w fun e w' => e = .returned (.int .i64 (if upto V l < l.length then (upto V l : Int) else -1)) ∧ Below w.heap.size w w' := by
  obtain ⟨A, c, rfl, hc, hk⟩ := hv.at
  obtain ⟨g, hg⟩ : ∃ g, g = w.heap.size := ⟨_, rfl⟩
  rw [← hg]
  have hgw : Below g w w := Below.refl _ _
  have HK := Lib.hid (fun i (h : i < l.length) => hk i h)
  have HC0 := Lib.hid (fun W (hW : Below w.heap.size w W) => (hW.cell (p := ⟨g0, 0, none⟩) hg0).trans hc0)
  obtain ⟨R, hR⟩ : ∃ R : Int, R = if upto V l < l.length then (upto V l : Int) else -1 := ⟨_, rfl⟩
  rw [← hR]
  have HYES := Lib.hid (fun i (hi : i < l.length) (h : ∀ t (_ : t < l.length), t < i → l[t].t.version ≤ V) (h1 : V < l[i].t.version) => (show R = (i : Int) by rw [hR, upto_go V l i hi h h1, if_pos hi]))
  have HNO := Lib.hid (fun (h : ∀ t (_ : t < l.length), l[t].t.version ≤ V) => (show R = -1 by rw [hR, upto_all V l h, if_neg (Nat.lt_irrefl _)]))
  have HS0 := Lib.hid hg0
  clear hv hk hc0 hR
  rw [← hg] at HC0
  have HG := Lib.hid hg; clear hg
  have HB0 := Lib.hid hgw; clear hgw
  go_enter Tryz.func68, Tryz.ntmps68
  go_wp2_with fail
  go_loopw [8] (fun iv wr => ∃ i : Nat, i ≤ l.length ∧ iv = .int .i64 i ∧ Hid (Below g w wr) ∧ Hid (∀ t (_ : t < l.length), t < i → l[t].t.version ≤ V)) (fun iv _ => l.length - (intOf iv).toNat)
  case atStart => exact ⟨0, Nat.zero_le _, rfl, HB0, Lib.hid (fun t _ h => absurd h (Nat.not_lt_zero _))⟩
  case round =>
    obtain ⟨i, hil, rfl, HBW, HP⟩ := hrel
    by_cases hlt : i < l.length
    · obtain ⟨b, o, rfl, hbl, -, hcell⟩ := HK.out i hlt
      have hBw : Below w.heap.size w wr := by rw [← HG.out]; exact HBW.out
      obtain ⟨k0, k1, k2, k3⟩ := hcell wr (hBw.block b hbl)
      clear hcell
      have hI : (i : Int) < (l.length : Int) := by omega
      have hcc := hbeh1_any l[i].t l[i].A l[i].t.chgs.length l[i].c g0 V wr (HC0.out wr HBW.out) (Nat.lt_of_lt_of_le HS0.out hBw.size)
      have hgs : g ≤ wr.heap.size := by rw [HG.out]; exact hBw.size
      have HY := Lib.hid (HYES.out i hlt HP.out)
      have HPP := Lib.hid (fun (e : ¬ V < l[i].t.version) t (ht : t < l.length) (h : t < i + 1) => (show l[t].t.version ≤ V from by
        by_cases h2 : t < i
        · exact HP.out t ht h2
        · obtain rfl : t = i := by omega
          omega))
      clear hBw hbl
      unfold bval BtV.v at *
      by_cases hx : V < l[i].t.version
      · rw [decide_eq_true hx] at hcc
        have HR := Lib.hid (HY.out hx)
        clear hx HPP HY
        generalize l[i].t.version = m1 at k1 hcc
        generalize l[i].t.prev = m0 at k0 hcc
        generalize l[i].t.known = m2 at k2 hcc
        generalize l[i].t.chgs.length = m3 at k3 hcc
        generalize l[i].A = m4 at k3 hcc
        generalize l[i].c = m5 at k3 hcc
        have HCC := Lib.hid hcc; clear hcc
        go_wp2_with fail
        refine HCC.out.mono ?_
        rintro e w2 ⟨rfl, hb2⟩
        have HB2 := Lib.hid (HBW.out.trans (hb2.mono hgs))
        clear hb2 k0 k1 k2 k3
        go_wp2_with fail
        go_ret
        exact ⟨by rw [HR.out]; rfl, HB2.out⟩
      · rw [decide_eq_false hx] at hcc
        have HP2 := Lib.hid (HPP.out hx)
        clear hx HPP HY
        generalize l[i].t.version = m1 at k1 hcc
        generalize l[i].t.prev = m0 at k0 hcc
        generalize l[i].t.known = m2 at k2 hcc
        generalize l[i].t.chgs.length = m3 at k3 hcc
        generalize l[i].A = m4 at k3 hcc
        generalize l[i].c = m5 at k3 hcc
        have HCC := Lib.hid hcc; clear hcc
        go_wp2_with fail
        refine HCC.out.mono ?_
        rintro e w2 ⟨rfl, hb2⟩
        have HB2 := Lib.hid (HBW.out.trans (hb2.mono hgs))
        clear hb2 k0 k1 k2 k3
        go_wp2_with fail
        go_roundw
        case rel => exact ⟨i + 1, by omega, by go_num, HB2, HP2⟩
        case measure => simp [intOf]; omega
    · obtain rfl : i = l.length := by omega
      have HR := Lib.hid (HNO.out fun t ht => HP.out t ht ht)
      go_wp2_with fail
      go_ret
      exact ⟨by rw [HR.out]; rfl, HBW.out⟩

set_option maxHeartbeats 4000000 in
set_option maxRecDepth 100000 in
theorem hbehind_any (K E B N : Int) (F : Option Addr) (fl nf : Nat) (go kn : Int) (l : List BtV) (H : Option Addr) (nh : Nat) (V : Int) (G : Nat → Prop) (B0 : Nat) (w : World) (hv : RdBts w B0 G (.slice H l.length nh) l) (hB : B0 ≤ w.heap.size) (hl : l.length < 4611686018427387904) :
    Calls Tryz.prog 38 #[lgv K E B N (.slice F fl nf) go kn (.slice H l.length nh), .int .i64 V] w fun e w' => ∃ A' c', e = .returned (.slice A' (l.length - upto V l) c') ∧ RdBts w' B0 G (.slice A' (l.length - upto V l) c') (l.drop (upto V l)) ∧ Below w.heap.size w w' := by
  obtain ⟨w1, hw1⟩ : ∃ w1, w1 = (w.alloc (.cells #[.int .i64 K, .int .i64 E, .int .i64 B, .int .i64 N, .slice F fl nf, .int .i64 go, .int .i64 kn, .slice H l.length nh] 73)).alloc (.cells #[.int .i64 V] 3) := ⟨_, rfl⟩
  have hb1 : Below w.heap.size w w1 := by rw [hw1]; exact ((Below.refl _ w).alloc (Nat.le_refl _) _).alloc (by simp) _
  have hL1 : Whole w1 w.heap.size 73 [.int .i64 K, .int .i64 E, .int .i64 B, .int .i64 N, .slice F fl nf, .int .i64 go, .int .i64 kn, .slice H l.length nh] := by
    rw [hw1]; exact (Whole.fresh w _ [_, _, _, _, _, _, _, _]).alloc _
  have hV1 : Whole w1 (w.heap.size + 1) 3 [.int .i64 V] := by
    have := Whole.fresh (w.alloc (.cells #[.int .i64 K, .int .i64 E, .int .i64 B, .int .i64 N, .slice F fl nf, .int .i64 go, .int .i64 kn, .slice H l.length nh] 73)) 3 [.int .i64 V]
    rw [hw1]; simpa using this
  have hx := hv.mv (Mv.of_new hb1 G) hB (fun _ _ k => k)
  have HI := Lib.hid (bindex_any l V (w.heap.size + 1) (.slice H l.length nh) G w1 (hx.mono (Nat.le_trans hB hb1.size) (fun _ _ k => k)) (hV1.cell 0 _ rfl) hV1.size hl)
  have HX := Lib.hid hx
  have HB1 := Lib.hid hb1
  have HL1 := Lib.hid hL1
  have hle := upto_le V l
  obtain ⟨u, hu⟩ : ∃ u, u = upto V l := ⟨_, rfl⟩
  rw [← hu] at HI hle ⊢
  have hc : l.length ≤ nh := by
    obtain ⟨_, _, e, h, _⟩ := hv.at
    injection e with _ _ e3
    rw [e3]; exact h
  have hA : u < l.length → ∃ b o, H = some ⟨b, o, none⟩ := fun h => by
    obtain ⟨_, _, e, _, h2⟩ := hv.at
    injection e with e1 _ _
    obtain ⟨b, o, h3, _⟩ := h2 0 (by omega)
    exact ⟨b, o, e1.trans h3⟩
  unfold lgv
  clear hv hx hb1 hL1 hV1 hu
  go_enter Tryz.func38, Tryz.ntmps38
  go_wp2_with fail
  rw [← hw1]
  clear hw1
  refine HI.out.mono ?_
  rintro e w2 ⟨rfl, hb2⟩
  have HB2 := Lib.hid (HB1.out.trans (hb2.mono HB1.out.size))
  have hL2 := HL1.out.below hb2 HL1.out.size
  have z7 := hL2.cell 7 _ rfl
  have hx2 := HX.out.mv (Mv.of_new hb2 G) (Nat.le_trans hB HB1.out.size) (fun _ _ k => k)
  clear hb2 hL2 HI HX HL1
  by_cases hlt : u < l.length
  · rw [if_pos hlt]
    obtain ⟨b, o, rfl⟩ := hA hlt
    have g1 : ¬ (u : Int) < 0 := by omega
    have g2 : (u : Int) ≤ (l.length : Int) := by omega
    have g3 : (u : Int) ≤ (nh : Int) := by omega
    have hd := hx2.drop u (nh - u) hle (by omega) (some ⟨b, o + u * 4, none⟩) (fun _ => by simp [Addr.add])
    have HD := Lib.hid hd
    clear hd hx2
    go_wp2_with fail
    go_ret
    exact ⟨_, _, rfl, HD.out, HB2.out⟩
  · rw [if_neg hlt]
    have hul : u = l.length := by omega
    have e1 : l.length - u = 0 := by omega
    have e2 : l.drop u = [] := by rw [hul, List.drop_length]
    have E1 := Lib.hid e1
    have E2 := Lib.hid e2
    clear hx2 e1 e2 hul
    go_wp2_with fail
    go_ret
    rw [E2.out, E1.out]
    exact ⟨_, _, rfl, RdBts.nil _ _ _ _ _, HB2.out⟩
end Go.Proofs.YtmigninibdecmaaGreat
namespace Go.Proofs.YtmigninibdecmaaGreat
open Go.RowKit
attribute [local go_sem] less_eq same_eq le_eq ge_eq gt_eq

end Go.Proofs.YtmigninibdecmaaGreat
namespace Go.Proofs.YtmigninibdecmaaGreat
open Go.RowKit
attribute [local go_sem] less_eq same_eq le_eq ge_eq gt_eq

theorem repS_stuck {α : Type} {one : Rest → α × Rest} (hone : ∀ S, (one S).2 ≠ none → S ≠ none) {i N : Nat} (h : i ≤ N) {S : Rest} (hs : repS one i S = none) : repS one N S = none := by
  refine Classical.byContradiction fun hn => ?_
  have := repS_add one hone i (N - i) (S := S) (by rw [show i + (N - i) = N by omega]; exact hn)
  exact this hs

end Go.Proofs.YtmigninibdecmaaGreat
namespace Go.Proofs.YtmigninibdecmaaGreat
open Go.RowKit
attribute [local go_sem] less_eq same_eq le_eq ge_eq gt_eq

theorem FW.fresh (w : World) (base : Nat) (h : base ≤ w.heap.size) : FW (w.alloc (.cells #[.slice none 0 0] 146)) base w.heap.size [] :=
  ⟨none, 0, Whole.fresh w _ _, Own.nil _ _, h, by simp; omega⟩
theorem listB_len {α : Type} {f : α → List UInt8} {c : Nat} {l : List α} (hl : l.length < 9223372036854775808) (h : ∀ x ∈ l, (f x).length ≤ c) : (listB f l).length ≤ 9 + l.length * c := by
  have h1 := enc_len9 hl
  have h2 : ∀ l : List α, (∀ x ∈ l, (f x).length ≤ c) → (l.flatMap f).length ≤ l.length * c := by
    intro l
    induction l with
    | nil => simp
    | cons a r ih =>
      intro h
      have := ih fun x hx => h x (by simp [hx])
      have := h a (by simp)
      rw [List.flatMap_cons, List.length_append, List.length_cons, Nat.add_mul]
      omega
  have := h2 l h
  rw [listB, List.length_append]; omega
theorem okC {c : Chg} (h : checkAns c = 0) : 0 ≤ c.kind ∧ c.kind < 9223372036854775808 ∧ c.key.size ≤ 65536 ∧ c.val.size ≤ 65536 := by
  unfold checkAns at h
  split at h
  · split at h
    · cases h
    · omega
  · split at h
    · split at h
      · cases h
      · omega
    · split at h
      · split at h
        · cases h
        · omega
      · cases h

end Go.Proofs.YtmigninibdecmaaGreat
namespace Go.Proofs.YtmigninibdecmaaGreat
open Go.RowKit
attribute [local go_sem] less_eq same_eq le_eq ge_eq gt_eq

set_option maxHeartbeats 2000000 in
set_option maxRecDepth 100000 in
theorem pputB_bad (x : Bat) (hs : ¬ soundB x) (hr : x.prev < 9223372036854775808 ∧ x.version < 9223372036854775808 ∧ x.known < 9223372036854775808) (hft : fitB x) (v : Value) (w : World) (hv : RdC w w.heap.size v x.chgs) :
    Calls Tryz.prog 62 #[bval x v] w fun e w' => e = .returned (.tuple #[.slice none 0 0, .int .i64 2]) ∧ Below w.heap.size w w' := by
  have hb1 : Below w.heap.size w (w.alloc (.cells #[.int .i64 x.prev, .int .i64 x.version, .int .i64 x.known, v] 38)) := (Below.refl _ _).alloc (Nat.le_refl _) _
  have hsnd := soundB_any x hft v (w.alloc (.cells #[.int .i64 x.prev, .int .i64 x.version, .int .i64 x.known, v] 38)) (hv.next hb1)
  have HV1 := Lib.hid (Whole.fresh w 38 [.int .i64 x.prev, .int .i64 x.version, .int .i64 x.known, v])
  have HB1 := Lib.hid hb1; clear hb1
  have HVB := Lib.hid hv
  obtain ⟨A2, cc2, hvv2, _, _⟩ := hv.at
  subst hvv2
  clear hv
  unfold bval at hsnd ⊢
  rw [decide_eq_false hs] at hsnd
  have HSND := Lib.hid hsnd; clear hsnd
  go_enter Tryz.func62, Tryz.ntmps62
  go_wp2_with fail
  refine HSND.out.mono ?_
  rintro e w2 ⟨rfl, hb2⟩
  have HB2 := Lib.hid (HB1.out.trans (hb2.mono (by simp))); clear hb2
  go_wp2_with fail
  go_ret2
  exact ⟨rfl, HB2.out⟩

set_option maxHeartbeats 8000000 in
set_option maxRecDepth 100000 in
theorem pputBO_ok (x : Bat) (hs : soundB x) (hr : x.prev < 9223372036854775808 ∧ x.version < 9223372036854775808 ∧ x.known < 9223372036854775808) (hft : fitB x) (v : Value) (w : World) (hv : RdC w w.heap.size v x.chgs) :
    Calls Tryz.prog 62 #[bval x v] w fun e w' => ∃ v', e = .returned (.tuple #[v', .int .i64 0]) ∧ OwnB w' w.heap.size v' (batB x) ∧ Below w.heap.size w w' := by
  have hb1 : Below w.heap.size w (w.alloc (.cells #[.int .i64 x.prev, .int .i64 x.version, .int .i64 x.known, v] 38)) := (Below.refl _ _).alloc (Nat.le_refl _) _
  have hsnd := soundB_any x hft v (w.alloc (.cells #[.int .i64 x.prev, .int .i64 x.version, .int .i64 x.known, v] 38)) (hv.next hb1)
  have HV1 := Lib.hid (Whole.fresh w 38 [.int .i64 x.prev, .int .i64 x.version, .int .i64 x.known, v])
  have HB1 := Lib.hid hb1; clear hb1
  have HVB := Lib.hid hv
  obtain ⟨A2, cc2, hvv2, _, _⟩ := hv.at
  subst hvv2
  clear hv
  unfold bval at hsnd ⊢
  rw [decide_eq_true hs] at hsnd
  have HSND := Lib.hid hsnd; clear hsnd
  have hin : batB x = ([] ++ encs [x.prev, x.version, x.known]) ++ listB chgB x.chgs := by simp [batB]
  have hs2 := hs
  obtain ⟨⟨s1, s2, s3⟩, s4, s5⟩ := hs2
  obtain ⟨r1, r2, r3⟩ := hr
  have hch : ∀ c ∈ x.chgs, 0 ≤ c.kind ∧ c.kind < 9223372036854775808 ∧ c.key.size ≤ 65536 ∧ c.val.size ≤ 65536 := fun c h => okC (allAns_all s5 c h)
  have hrng : ∀ n ∈ [x.prev, x.version, x.known], 0 ≤ n ∧ n < 9223372036854775808 := by
    simp only [List.mem_cons, List.not_mem_nil, or_false, forall_eq_or_imp, forall_eq]
    omega
  have hel := encs_len [x.prev, x.version, x.known] (fun n h => (hrng n h).2)
  have hnum := fun (W : World) (v : Value) (base p : Nat) (h1 : FW W base p []) (h2 : RdI W W.heap.size v [x.prev, x.version, x.known]) => fnums_any [x.prev, x.version, x.known] hrng (by simp) v base p [] W h1 h2 (by simp)
  have h1l : ([] ++ encs [x.prev, x.version, x.known]).length ≤ 27 := by simpa using hel
  generalize [] ++ encs [x.prev, x.version, x.known] = L1 at hin hnum h1l
  have hchg := fun (W : World) (base p : Nat) (h1 : FW W base p L1) (h2 : RdC W base (.slice A2 x.chgs.length cc2) x.chgs) => fchgs_any x.chgs hch s4 _ base p L1 W h1 h2 (by omega)
  generalize L1 ++ listB chgB x.chgs = L3 at hin hchg
  have HNUM := Lib.hid hnum
  have HCH := Lib.hid hchg
  have HIN := Lib.hid hin
  clear hnum hchg hin hel h1l hch hrng hs s1 s2 s3 s4 s5 r1 r2 r3 hft
  go_enter Tryz.func62, Tryz.ntmps62
  go_wp2_with fail
  refine HSND.out.mono ?_
  rintro e w0 ⟨rfl, hb2⟩
  have hV0 := HV1.out.below hb2 (by simp)
  have hbw : Below w.heap.size w w0 := HB1.out.trans (hb2.mono (by simp))
  have HV0 := Lib.hid hV0; clear hV0
  have HBW := Lib.hid hbw; clear hbw hb2
  have hlt0 : w.heap.size < w0.heap.size := HV0.out.size
  go_wp2_with fail
  obtain ⟨base, hbase⟩ : ∃ base, base = w0.heap.size := ⟨_, rfl⟩
  have hG0 : w.heap.size < base := by omega
  have HC := Lib.hid (fun W (hW : Below base w0 W) => HV0.out.below hW hG0)
  have HCHG := Lib.hid (fun (W : World) (p : Nat) (h1 : FW W base p L1) (hW : Below base w0 W) => HCH.out W base p h1 (((HVB.out.below HBW.out (Nat.le_refl _)).below hW (by omega)).mono (by omega)))
  clear HCH
  refine wp_region_planT (fun W => Below base w0 W) (.take 1 (.take 2 (.take 3 (.take 4 (.take 5 (.take 6 (.take 9 (.take 10 (.fork 0 (.step 7 (.step 8 (.step 11 (.take 12 (.take 13 (.step 14 (.take 15 (.take 16 .done)))))))) 7 (.step 0 (.step 8 (.step 11 (.take 12 (.take 13 (.step 14 (.take 15 (.take 16 .done))))))))))))))))) (by kernel_rfl) (by kernel_rfl) (fun _ _ d _ _ h => by cases d <;> exact h) ((Below.refl _ _).drew) ?_
  have hS1 : Below base w0 w0.drew := (Below.refl _ _).drew
  have hz1 : base ≤ w0.drew.heap.size := by rw [hbase]; exact Nat.le_refl _
  have HBASE := Lib.hid hbase; clear hbase
  generalize w0.drew = w1 at hS1 hz1 ⊢
  have HS1 := Lib.hid hS1; clear hS1
  refine PlanT.takeI (v := ?_) rfl rfl ?_ ?_; rotate_left; (focus (intro W hW; have hC := HC.out W hW; have k0 := hC.cell 0 _ rfl; have k1 := hC.cell 1 _ rfl; have k2 := hC.cell 2 _ rfl; have k3 := hC.cell 3 _ rfl; go_simp; (try with_reducible rfl); done)); (try simp only [Act.put, List.setIfInBounds_toArray, List.set_cons_zero, List.set_cons_succ])
  refine PlanT.takeI (v := ?_) rfl rfl ?_ ?_; rotate_left; (focus (intro W hW; have hC := HC.out W hW; have k0 := hC.cell 0 _ rfl; have k1 := hC.cell 1 _ rfl; have k2 := hC.cell 2 _ rfl; have k3 := hC.cell 3 _ rfl; go_simp; (try with_reducible rfl); done)); (try simp only [Act.put, List.setIfInBounds_toArray, List.set_cons_zero, List.set_cons_succ])
  refine PlanT.takeI (v := ?_) rfl rfl ?_ ?_; rotate_left; (focus (intro W hW; have hC := HC.out W hW; have k0 := hC.cell 0 _ rfl; have k1 := hC.cell 1 _ rfl; have k2 := hC.cell 2 _ rfl; have k3 := hC.cell 3 _ rfl; go_simp; (try with_reducible rfl); done)); (try simp only [Act.put, List.setIfInBounds_toArray, List.set_cons_zero, List.set_cons_succ])
  refine PlanT.takeI (v := ?_) rfl rfl ?_ ?_; rotate_left; (focus (intro W hW; have hC := HC.out W hW; have k0 := hC.cell 0 _ rfl; have k1 := hC.cell 1 _ rfl; have k2 := hC.cell 2 _ rfl; have k3 := hC.cell 3 _ rfl; go_simp; (try with_reducible rfl); done)); (try simp only [Act.put, List.setIfInBounds_toArray, List.set_cons_zero, List.set_cons_succ])
  refine PlanT.takeI (v := ?_) rfl rfl ?_ ?_; rotate_left; (focus (intro W hW; have hC := HC.out W hW; have k0 := hC.cell 0 _ rfl; have k1 := hC.cell 1 _ rfl; have k2 := hC.cell 2 _ rfl; have k3 := hC.cell 3 _ rfl; go_simp; (try with_reducible rfl); done)); (try simp only [Act.put, List.setIfInBounds_toArray, List.set_cons_zero, List.set_cons_succ])
  refine PlanT.takeI (v := ?_) rfl rfl ?_ ?_; rotate_left; (focus (intro W hW; have hC := HC.out W hW; have k0 := hC.cell 0 _ rfl; have k1 := hC.cell 1 _ rfl; have k2 := hC.cell 2 _ rfl; have k3 := hC.cell 3 _ rfl; go_simp; (try with_reducible rfl); done)); (try simp only [Act.put, List.setIfInBounds_toArray, List.set_cons_zero, List.set_cons_succ])
  refine PlanT.takeI (v := ?_) rfl rfl ?_ ?_; rotate_left; (focus (intro W hW; have hC := HC.out W hW; have k0 := hC.cell 0 _ rfl; have k1 := hC.cell 1 _ rfl; have k2 := hC.cell 2 _ rfl; have k3 := hC.cell 3 _ rfl; go_simp; (try with_reducible rfl); done)); (try simp only [Act.put, List.setIfInBounds_toArray, List.set_cons_zero, List.set_cons_succ])
  refine PlanT.takeI (v := ?_) rfl rfl ?_ ?_; rotate_left; (focus (intro W hW; have hC := HC.out W hW; have k0 := hC.cell 0 _ rfl; have k1 := hC.cell 1 _ rfl; have k2 := hC.cell 2 _ rfl; have k3 := hC.cell 3 _ rfl; go_simp; (try with_reducible rfl); done)); (try simp only [Act.put, List.setIfInBounds_toArray, List.set_cons_zero, List.set_cons_succ])
  refine ⟨?_, ?_⟩
  · refine wpOp_stepT rfl rfl (fun Kk hK => ?_)
    go_simp
    obtain ⟨w10, hw10⟩ : ∃ W, W = w1.alloc (.cells #[.slice none 0 0] 146) := ⟨_, rfl⟩
    have hb10 : Below w1.heap.size w1 w10 := by rw [hw10]; exact (Below.refl _ _).alloc (Nat.le_refl _) _
    have hz10 : base ≤ w10.heap.size := Nat.le_trans hz1 hb10.size
    have hS10 : Below base w0 w10 := HS1.out.trans (hb10.mono hz1)
    have hN10 : FW w10 base w1.heap.size [] := by rw [hw10]; exact FW.fresh _ _ hz1
    rw [← hw10]
    clear hw10 hb10
    obtain ⟨p10, hg10⟩ : ∃ g, g = w1.heap.size := ⟨_, rfl⟩
    rw [← hg10] at hN10 ⊢
    clear hg10
    have HS10 := Lib.hid hS10
    have HF10 := Lib.hid hN10
    refine hK.out _ _ hS10 ?_
    clear hK Kk hS10 hN10
    refine wpOp_stepT rfl rfl (fun Kk hK => ?_)
    go_simp
    obtain ⟨w11, hw11⟩ : ∃ W, W = w10.alloc (.cells #[.int .i64 x.prev, .int .i64 x.version, .int .i64 x.known] 3) := ⟨_, rfl⟩
    have hb11 : Below w10.heap.size w10 w11 := by rw [hw11]; exact (Below.refl _ _).alloc (Nat.le_refl _) _
    have hz11 : base ≤ w11.heap.size := Nat.le_trans hz10 hb11.size
    have hS11 : Below base w0 w11 := HS10.out.trans (hb11.mono hz10)
    have hN11 : RdI w11 w11.heap.size (.slice (some ⟨w10.heap.size, 0, none⟩) 3 3) [x.prev, x.version, x.known] := by rw [hw11, World.size_alloc]; exact RdI.lit _ [x.prev, x.version, x.known]
    have HF11 := Lib.hid (HF10.out.more hb11 (Nat.le_refl _))
    rw [← hw11]
    clear hw11 hb11
    obtain ⟨g11, hg11⟩ : ∃ g, g = w10.heap.size := ⟨_, rfl⟩
    rw [← hg11] at hN11 ⊢
    clear hg11
    have HS11 := Lib.hid hS11
    have HI11_7 := Lib.hid hN11
    refine hK.out _ _ hS11 ?_
    clear hK Kk hS11 hN11
    refine wpOp_stepT rfl rfl (fun Kk hK => ?_)
    go_simp
    go_at_call 96
    refine (HNUM.out _ _ _ _ HF11.out HI11_7.out).mono ?_
    rintro e w12 ⟨rfl, hf12, hb12, hk12⟩
    have hz12 : base ≤ w12.heap.size := hf12.size
    have hS12 : Below base w0 w12 := HS11.out.trans hb12
    have HF12 := Lib.hid hf12
    have HS12 := Lib.hid hS12
    refine hK.out _ _ hS12 ?_
    clear hK Kk hS12 hf12 hb12 hk12
    refine wpOp_stepT rfl rfl (fun Kk hK => ?_)
    go_simp
    go_at_call 97
    refine (HCHG.out _ _ HF12.out HS12.out).mono ?_
    rintro e w13 ⟨rfl, hf13, hb13, hk13⟩
    have hz13 : base ≤ w13.heap.size := hf13.size
    have hS13 : Below base w0 w13 := HS12.out.trans hb13
    have HF13 := Lib.hid hf13
    have HS13 := Lib.hid hS13
    refine hK.out _ _ hS13 ?_
    clear hK Kk hS13 hf13 hb13 hk13
    refine PlanT.takeI (v := ?_) rfl rfl ?_ ?_; rotate_left; (focus (intro W hW;  go_simp; (try with_reducible rfl); done)); (try simp only [Act.put, List.setIfInBounds_toArray, List.set_cons_zero, List.set_cons_succ])
    refine PlanT.takeI (v := ?_) rfl rfl ?_ ?_; rotate_left; (focus (intro W hW;  go_simp; (try with_reducible rfl); done)); (try simp only [Act.put, List.setIfInBounds_toArray, List.set_cons_zero, List.set_cons_succ])
    obtain ⟨A13, c13, hwh13, how13, hpp13, _⟩ := HF13.out
    have q13 := hwh13.cell 0 _ rfl
    have HOW13 := Lib.hid how13
    refine wpOp_stepT rfl rfl (fun Kk hK => ?_)
    go_simp
    refine hK.out _ _ HS13.out ?_
    clear hK Kk
    refine PlanT.takeI (v := ?_) rfl rfl ?_ ?_; rotate_left; (focus (intro W hW;  go_simp; (try with_reducible rfl); done)); (try simp only [Act.put, List.setIfInBounds_toArray, List.set_cons_zero, List.set_cons_succ])
    refine PlanT.takeI (v := ?_) rfl rfl ?_ ?_; rotate_left; (focus (intro W hW;  go_simp; (try with_reducible rfl); done)); (try simp only [Act.put, List.setIfInBounds_toArray, List.set_cons_zero, List.set_cons_succ])
    simp only [PlanT]
    have HBF := Lib.hid (show Below w.heap.size w w13 from HBW.out.trans (HS13.out.mono (by omega)))
    clear how13 hwh13 hpp13
    go_wp2_with fail
    go_ret2
    exact ⟨_, rfl, by rw [HIN.out]; exact HOW13.out.lower (by omega), HBF.out⟩
  · refine wpOp_stepT rfl rfl (fun Kk hK => ?_)
    go_simp
    obtain ⟨w14, hw14⟩ : ∃ W, W = w1.alloc (.cells #[.int .i64 x.prev, .int .i64 x.version, .int .i64 x.known] 3) := ⟨_, rfl⟩
    have hb14 : Below w1.heap.size w1 w14 := by rw [hw14]; exact (Below.refl _ _).alloc (Nat.le_refl _) _
    have hz14 : base ≤ w14.heap.size := Nat.le_trans hz1 hb14.size
    have hS14 : Below base w0 w14 := HS1.out.trans (hb14.mono hz1)
    have hN14 : RdI w14 w14.heap.size (.slice (some ⟨w1.heap.size, 0, none⟩) 3 3) [x.prev, x.version, x.known] := by rw [hw14, World.size_alloc]; exact RdI.lit _ [x.prev, x.version, x.known]
    rw [← hw14]
    clear hw14 hb14
    obtain ⟨g14, hg14⟩ : ∃ g, g = w1.heap.size := ⟨_, rfl⟩
    rw [← hg14] at hN14 ⊢
    clear hg14
    have HS14 := Lib.hid hS14
    have HI14_7 := Lib.hid hN14
    refine hK.out _ _ hS14 ?_
    clear hK Kk hS14 hN14
    refine wpOp_stepT rfl rfl (fun Kk hK => ?_)
    go_simp
    obtain ⟨w15, hw15⟩ : ∃ W, W = w14.alloc (.cells #[.slice none 0 0] 146) := ⟨_, rfl⟩
    have hb15 : Below w14.heap.size w14 w15 := by rw [hw15]; exact (Below.refl _ _).alloc (Nat.le_refl _) _
    have hz15 : base ≤ w15.heap.size := Nat.le_trans hz14 hb15.size
    have hS15 : Below base w0 w15 := HS14.out.trans (hb15.mono hz14)
    have hN15 : FW w15 base w14.heap.size [] := by rw [hw15]; exact FW.fresh _ _ hz14
    have HI15_7 := Lib.hid (show RdI w15 w15.heap.size (.slice (some ⟨g14, 0, none⟩) 3 3) [x.prev, x.version, x.known] from HI14_7.out.next hb15)
    rw [← hw15]
    clear hw15 hb15
    obtain ⟨p15, hg15⟩ : ∃ g, g = w14.heap.size := ⟨_, rfl⟩
    rw [← hg15] at hN15 ⊢
    clear hg15
    have HS15 := Lib.hid hS15
    have HF15 := Lib.hid hN15
    refine hK.out _ _ hS15 ?_
    clear hK Kk hS15 hN15
    refine wpOp_stepT rfl rfl (fun Kk hK => ?_)
    go_simp
    go_at_call 96
    refine (HNUM.out _ _ _ _ HF15.out HI15_7.out).mono ?_
    rintro e w16 ⟨rfl, hf16, hb16, hk16⟩
    have hz16 : base ≤ w16.heap.size := hf16.size
    have hS16 : Below base w0 w16 := HS15.out.trans hb16
    have HF16 := Lib.hid hf16
    have HS16 := Lib.hid hS16
    refine hK.out _ _ hS16 ?_
    clear hK Kk hS16 hf16 hb16 hk16
    refine wpOp_stepT rfl rfl (fun Kk hK => ?_)
    go_simp
    go_at_call 97
    refine (HCHG.out _ _ HF16.out HS16.out).mono ?_
    rintro e w17 ⟨rfl, hf17, hb17, hk17⟩
    have hz17 : base ≤ w17.heap.size := hf17.size
    have hS17 : Below base w0 w17 := HS16.out.trans hb17
    have HF17 := Lib.hid hf17
    have HS17 := Lib.hid hS17
    refine hK.out _ _ hS17 ?_
    clear hK Kk hS17 hf17 hb17 hk17
    refine PlanT.takeI (v := ?_) rfl rfl ?_ ?_; rotate_left; (focus (intro W hW;  go_simp; (try with_reducible rfl); done)); (try simp only [Act.put, List.setIfInBounds_toArray, List.set_cons_zero, List.set_cons_succ])
    refine PlanT.takeI (v := ?_) rfl rfl ?_ ?_; rotate_left; (focus (intro W hW;  go_simp; (try with_reducible rfl); done)); (try simp only [Act.put, List.setIfInBounds_toArray, List.set_cons_zero, List.set_cons_succ])
    obtain ⟨A17, c17, hwh17, how17, hpp17, _⟩ := HF17.out
    have q17 := hwh17.cell 0 _ rfl
    have HOW17 := Lib.hid how17
    refine wpOp_stepT rfl rfl (fun Kk hK => ?_)
    go_simp
    refine hK.out _ _ HS17.out ?_
    clear hK Kk
    refine PlanT.takeI (v := ?_) rfl rfl ?_ ?_; rotate_left; (focus (intro W hW;  go_simp; (try with_reducible rfl); done)); (try simp only [Act.put, List.setIfInBounds_toArray, List.set_cons_zero, List.set_cons_succ])
    refine PlanT.takeI (v := ?_) rfl rfl ?_ ?_; rotate_left; (focus (intro W hW;  go_simp; (try with_reducible rfl); done)); (try simp only [Act.put, List.setIfInBounds_toArray, List.set_cons_zero, List.set_cons_succ])
    simp only [PlanT]
    have HBF := Lib.hid (show Below w.heap.size w w17 from HBW.out.trans (HS17.out.mono (by omega)))
    clear how17 hwh17 hpp17
    go_wp2_with fail
    go_ret2
    exact ⟨_, rfl, by rw [HIN.out]; exact HOW17.out.lower (by omega), HBF.out⟩
theorem pputB_ok (x : Bat) (hs : soundB x) (hr : x.prev < 9223372036854775808 ∧ x.version < 9223372036854775808 ∧ x.known < 9223372036854775808) (hft : fitB x) (v : Value) (w : World) (hv : RdC w w.heap.size v x.chgs) :
    Calls Tryz.prog 62 #[bval x v] w fun e w' => ∃ v', e = .returned (.tuple #[v', .int .i64 0]) ∧ RdB w' w'.heap.size v' (batB x) ∧ Below w.heap.size w w' := by
  refine (pputBO_ok x hs hr hft v w hv).mono ?_
  rintro e w' ⟨v', h1, h2, h3⟩
  exact ⟨v', h1, h2.rdB, h3⟩

end Go.Proofs.YtmigninibdecmaaGreat
namespace Go.Proofs.YtmigninibdecmaaGreat
open Go.RowKit
attribute [local go_sem] less_eq same_eq le_eq ge_eq gt_eq

section
variable {ops : Array Oper} {rest : List Oper} {o : Oper} {a : Act} {Q : Exit → Act → World → Prop} {w : World}
/-- append of changes to a slice of the call's own -/
theorem wpList_addK (hgd : Region.wanted o (yielded ops a.tmps) = true) (s x : Operand)
    (ho : o.op = .call { callee := .builtin .append, args := #[s, x], argTypes := #[36, 36] })
    (base : Nat) (v : Value) (l : List Chg) (hs : a.eval s = v) (hown : OwnC w base v l) (B : Nat) (v2 : Value) (p : List Chg) (hx : a.eval x = v2) (hp : RdC w B v2 p)
    (hlen : l.length + p.length ≤ 5000000000000) (hbase : base ≤ w.heap.size)
    (h : ∀ A' c' w', Hid (OwnC w' base (.slice A' (l ++ p).length c') (l ++ p)) → Hid (w.grownBy w' v.ownBlock) → wpList Tryz.prog ops Q rest (a.put o.dst (.slice A' (l ++ p).length c')) w') : wpList Tryz.prog ops Q (o :: rest) a w := by
  obtain ⟨i0, hi, hz0, hz1, hz2⟩ := info_parts info_chg
  refine BigFrame.wpList_want hgd fun K hK => ?_
  refine wp_addAny (enc := encC) (k := 3) 36 43 40 i0 _ Tryz.underlying36 hi hz0 hz1 hz2 rfl (by decide) encC_len encC_one s x ho base v l hs hown B v2 p hx hp (by unfold maxLen; omega) (by omega) hbase fun A' c' w' h1 h2 => ?_
  exact hK _ _ (h A' c' w' (Lib.hid h1) (Lib.hid h2))
end

set_option maxHeartbeats 4000000 in
set_option maxRecDepth 100000 in
/-- batches copied, each with its changes -/
theorem hfresh_any (l : List BtV) (v : Value) (w : World) (hv : RdBts w w.heap.size (fun _ => False) v l) (hl : l.length ≤ 1000) (hc : ∀ x ∈ l, x.t.chgs.length ≤ 4096) :
    Calls Tryz.prog 26 #[v] w fun e w' => ∃ v' l', e = .returned v' ∧ l'.map (·.t) = l.map (·.t) ∧ RowP w' w.heap.size (fun i => i < w.heap.size) v' l' ∧ Below w.heap.size w w' := by
  obtain ⟨A, c, rfl, -, -⟩ := hv.at
  have HV := Lib.hid hv
  have HC := Lib.hid hc
  clear hv hc
  go_enter Tryz.func26, Tryz.ntmps26
  go_wp2_with fail
  go_loopw [3, 8] (fun ov iv wr => ∃ (i : Nat) (F : Option Addr) (cf : Nat) (l' : List BtV), i ≤ l.length ∧ iv = .int .i64 (i : Int) ∧ ov = .slice F l'.length cf ∧ l'.map (·.t) = (l.take i).map (·.t) ∧ RowP wr w.heap.size (fun i => i < w.heap.size) (.slice F l'.length cf) l' ∧ Below w.heap.size w wr) (fun _ iv _ => l.length - (intOf iv).toNat)
  case atStart => exact ⟨0, none, 0, [], by omega, rfl, rfl, rfl, ⟨Own.nil _ _, fun g hg => by simp [Value.ownBlock] at hg, fun x hx => by cases hx⟩, Below.refl _ _⟩
  case round =>
    obtain ⟨i, F, cf, l', hi, rfl, rfl, hm, hrow, hbw⟩ := hrel
    by_cases hgo : i < l.length
    · have h1 : (i : Int) < (l.length : Int) := by omega
      have hx1 := HV.out.next hbw (fun _ _ h => h)
      have hp1 := (hx1.parts l[i] (List.getElem_mem hgo)).rd
      have hcc := HC.out l[i] (List.getElem_mem hgo)
      obtain ⟨_, _, e0, -, hcell1⟩ := hx1.at
      injection e0 with e1 e2 e3
      subst e1 e3
      obtain ⟨b1, o1, rfl, hbl1, -, q1⟩ := hcell1 i hgo
      obtain ⟨k0, k1, k2, k3⟩ := q1 wr rfl
      have hstep : (l.take (i + 1)).map (·.t) = (l.take i).map (·.t) ++ [l[i].t] := by
        rw [List.take_add_one, List.getElem?_eq_getElem hgo, List.map_append]
        rfl
      generalize l[i] = x at hp1 hcc k0 k1 k2 k3 hstep
      obtain ⟨t, a1, c1⟩ := x
      unfold BtV.v at hp1 k3
      simp only at hp1 hcc k0 k1 k2 k3 hstep
      obtain ⟨gb, hgb⟩ : ∃ gb, gb = wr.heap.size := ⟨_, rfl⟩
      obtain ⟨w5, hw5⟩ : ∃ w5, w5 = wr.alloc (.cells #[.int .i64 t.prev, .int .i64 t.version, .int .i64 t.known, .slice a1 t.chgs.length c1] 38) := ⟨_, rfl⟩
      have hb5 : Below wr.heap.size wr w5 := by rw [hw5]; exact (Below.refl _ wr).alloc (Nat.le_refl _) _
      have hB5 : Whole w5 gb 38 [.int .i64 t.prev, .int .i64 t.version, .int .i64 t.known, .slice a1 t.chgs.length c1] := by rw [hw5, hgb]; exact Whole.fresh wr _ [_, _, _, _]
      have hq5 : RdC w5 w5.heap.size (.slice a1 t.chgs.length c1) t.chgs := Rd.next (w := wr) hp1 hb5
      have hn5 : OwnC w5 w5.heap.size (.slice none 0 0) ([] : List Chg) := Own.nil _ _
      have hs5 : w5.heap.size = wr.heap.size + 1 := by rw [hw5]; simp
      rw [hw5] at hq5 hn5
      have HQ5 := Lib.hid hq5
      have HN5 := Lib.hid hn5
      have HB5 := Lib.hid hB5
      have HROW := Lib.hid hrow
      have HBB := Lib.hid hb5
      have HGE := Lib.hid hgb
      have HW5 := Lib.hid (hbw.trans (hb5.mono hbw.size))
      have HM := Lib.hid (And.intro hm hstep)
      have HZ := Lib.hid hbw.size
      have HLE := Lib.hid (show l'.length ≤ 1000 from by have h := congrArg List.length hm; rw [List.length_map, List.length_map, List.length_take] at h; omega)
      have HG5 := Lib.hid (show gb < w5.heap.size ∧ w.heap.size ≤ gb ∧ (∀ g, (Value.slice F l'.length cf).ownBlock = some g → g < gb) from ⟨hB5.size, by rw [hgb]; exact hbw.size, fun g hg => by rw [hgb]; exact (Own.low hrow.own hg).2⟩)
      have HCN := Lib.hid hcc
      clear hx1 hp1 hcc hcell1 q1 hstep hm hrow hbw hB5 hb5 hq5 hn5
      go_wp2_with (at_builtin; go_must (refine wpList_addK rfl _ _ rfl (wr.alloc (.cells #[.int .i64 t.prev, .int .i64 t.version, .int .i64 t.known, .slice a1 t.chgs.length c1] 38)).heap.size (.slice none 0 0) ([] : List Chg) rfl HN5.out _ _ t.chgs rfl HQ5.out (by simp only [List.length_nil]; have := HCN.out; omega) (Nat.le_refl _) ?_))
      rw [← hw5]
      intro A6 c6 w6 ho6' hg6'
      have ho6 : OwnC w6 w5.heap.size (.slice A6 t.chgs.length c6) t.chgs := by rw [hs5]; exact ho6'.out
      have hb6 : Below w5.heap.size w5 w6 := Own.grown (hw5 ▸ HN5.out) (Below.refl w5.heap.size w5) hg6'.out (Nat.le_refl _) (Nat.le_refl _)
      rw [← hgb]
      clear hs5 ho6' hg6' hw5 hgb k0 k1 k2 k3 HCN HN5 HQ5
      have hB6 := HB5.out.below hb6 HB5.out.size
      have z3 := hB6.cell 3 _ rfl
      have f3 := hB6.frozen 3
      have z0 := hB6.cell 0 _ rfl
      have z1 := hB6.cell 1 _ rfl
      have z2 := hB6.cell 2 _ rfl
      have HO6 := Lib.hid ho6
      have HBB6 := Lib.hid (HBB.out.trans (hb6.mono HBB.out.size))
      have HW6 := Lib.hid (HW5.out.trans (hb6.mono HW5.out.size))
      have HB6 := Lib.hid hB6
      have HS6 := Lib.hid hb6.size
      clear ho6 hb6 hB6 HB5 HBB
      have hm7 : Mv (fun i => i = gb) w6 (w6.setCell ⟨gb, 3, none⟩ (.slice A6 t.chgs.length c6)) := (Mv.refl (fun i => i = gb) w6).one 3 _
      obtain ⟨w7, hw7⟩ : ∃ w7, w7 = w6.setCell ⟨gb, 3, none⟩ (.slice A6 t.chgs.length c6) := ⟨_, rfl⟩
      rw [← hw7] at hm7
      have hz7 : w7.heap.size = w6.heap.size := by rw [hw7]; simp
      have hb8 : Below w7.heap.size w7 (w7.alloc (.cells #[.int .i64 t.prev, .int .i64 t.version, .int .i64 t.known, .slice A6 t.chgs.length c6] 38)) := (Below.refl _ w7).alloc (Nat.le_refl _) _
      have hpart : RdG encC 3 w7 w7.heap.size (fun i => i < w5.heap.size) (.slice A6 t.chgs.length c6) t.chgs := by
        have h := (RdG.own (G := fun i => i < w5.heap.size) encC_len HO6.out (fun b hb _ _ hg => by omega)).mv hm7 (Nat.le_refl _) (fun b _ e => by have := HG5.out.1; omega)
        exact h.mono hm7.size (fun _ _ h => h)
      have hr7 : RowP w7 w.heap.size (fun i => i < w.heap.size) (.slice F l'.length cf) l' :=
        HROW.out.new (HBB6.out.trans (hm7.below HBB6.out.size (fun i e => by rw [e, HGE.out]; exact Nat.le_refl _)))
      have hw7b : Below w.heap.size w w7 := HW6.out.trans (hm7.below HW6.out.size (fun i e => by rw [e]; exact HG5.out.2.1))
      have hr8 := hr7.new hb8
      have hp8 := (hpart.mv (Mv.of_new hb8 (fun _ => False)) (Nat.le_refl _) (fun _ _ h => h.elim)).mono (B' := (w7.alloc (.cells #[.int .i64 t.prev, .int .i64 t.version, .int .i64 t.known, .slice A6 t.chgs.length c6] 38)).heap.size) (G' := fun i => i < w.heap.size ∨ (Value.slice F l'.length cf).ownBlock = some i) hb8.size (fun b _ h => by
        have h1 := HG5.out
        have h2 := HZ.out
        rcases h with h | h
        · show b < w5.heap.size
          omega
        · have := h1.2.2 b h
          show b < w5.heap.size
          omega)
      have hone := Rd.one w7 ⟨t, A6, c6⟩ 38
      have hw8 := hw7b.trans (hb8.mono hw7b.size)
      have hz8 := hw8.size
      rw [hz7] at hone
      rw [hw7] at hr8 hp8 hone hw8 hz8
      have HR8 := Lib.hid hr8
      have HP8 := Lib.hid hp8
      have HON := Lib.hid (show Rd encBt 4 ((w6.setCell ⟨gb, 3, none⟩ (.slice A6 t.chgs.length c6)).alloc (.cells #[.int .i64 t.prev, .int .i64 t.version, .int .i64 t.known, .slice A6 t.chgs.length c6] 38)) (w6.heap.size + 1) (.slice (some ⟨w6.heap.size, 0, none⟩) 1 1) [⟨t, A6, c6⟩] from hone)
      have HW8 := Lib.hid hw8
      clear hr8 hp8 hone hw8 hr7 hw7b hpart hb8 hm7 hz7 hw7
      go_wp2_with (at_builtin; go_must (refine wpList_addT rfl _ _ rfl w.heap.size (.slice F l'.length cf) l' rfl HR8.out.own (w6.heap.size + 1) _ [⟨t, A6, c6⟩] rfl HON.out (by show _ + 1 ≤ _; have := HLE.out; omega) hz8 ?_))
      rintro A' c' w9 HO9 HG9 HN9
      have HR9 := Lib.hid (HR8.out.add HO9.out HG9.out HN9.out (fun i hi => Nat.lt_of_lt_of_le hi hz8) (fun x hx => by
        rw [List.mem_singleton.1 hx]
        exact HP8.out))
      have HW9 := Lib.hid (Own.grown HR8.out.own HW8.out HG9.out (Nat.le_refl _) hz8)
      clear HO9 HG9 HN9 HR8 HP8 HON HW8 hz8 z0 z1 z2 z3 f3
      go_wp2_with fail
      go_roundw
      case rel => exact ⟨i + 1, A', c', l' ++ [⟨t, A6, c6⟩], by omega, by go_num, by simp, (by rw [HM.out.2, List.map_append, HM.out.1]; rfl), (by rw [List.length_append]; exact HR9.out), HW9.out⟩
      case measure => simp [intOf]; omega
    · have h1 : ¬ (i : Int) < (l.length : Int) := by omega
      have hil : i = l.length := by omega
      have HM := Lib.hid (show l'.map (·.t) = l.map (·.t) from by rw [hm, hil, List.take_length])
      have HR := Lib.hid hrow
      have HB := Lib.hid hbw
      clear hm hrow hbw hil
      go_wp2_with fail
      go_ret
      exact ⟨_, rfl, l', HM.out, HR.out, HB.out⟩
end Go.Proofs.YtmigninibdecmaaGreat
namespace Go.Proofs.YtmigninibdecmaaGreat
open Go.RowKit
attribute [local go_sem] less_eq same_eq le_eq ge_eq gt_eq

theorem Bat.Tiny.fitB {t : Bat} (h : t.Tiny) : Go.Proofs.YtmigninibdecmaaGreat.fitB t := by
  obtain ⟨_, h2, h3⟩ := h.sound
  refine ⟨by omega, fun c hc => ?_⟩
  have := allAns_all h3 c hc
  unfold checkAns at this
  unfold smallC
  split at this
  · split at this
    · cases this
    · omega
  · split at this
    · split at this
      · cases this
      · omega
    · split at this
      · split at this
        · cases this
        · omega
      · cases this
theorem Bat.Tiny.lt {t : Bat} (h : t.Tiny) : t.prev < 9223372036854775808 ∧ t.version < 9223372036854775808 ∧ t.known < 9223372036854775808 := by
  have := h.fits
  omega
set_option maxHeartbeats 2000000 in
set_option maxRecDepth 100000 in
theorem hcheck_any (t : Bat) (ht : t.Tiny) (A : Option Addr) (n c : Nat) (w : World) (hv : RdC w w.heap.size (.slice A n c) t.chgs) :
    Calls Tryz.prog 34 #[bval t (.slice A n c)] w fun e w' => e = .returned (.int .i64 0) ∧ Below w.heap.size w w' := by
  obtain ⟨w1, hw1⟩ : ∃ w1, w1 = w.alloc (.cells #[.int .i64 t.prev, .int .i64 t.version, .int .i64 t.known, .slice A n c] 38) := ⟨_, rfl⟩
  have hb1 : Below w.heap.size w w1 := by rw [hw1]; exact (Below.refl _ w).alloc (Nat.le_refl _) _
  have HP := Lib.hid (pputB_ok t ht.sound ht.lt ht.fitB (.slice A n c) w1 (Rd.next (w := w) hv hb1))
  have HB1 := Lib.hid hb1
  have HLN := Lib.hid ht.len
  unfold bval at *
  clear hb1 hv
  go_enter Tryz.func34, Tryz.ntmps34
  go_wp2_with fail
  rw [← hw1]
  clear hw1
  refine HP.out.mono ?_
  rintro e w2 ⟨v', rfl, hr, hb2⟩
  obtain ⟨A2, c2, rfl, -, -⟩ := hr.at
  have g1 : ¬ (2400 : Int) < ((batB t).length : Int) := by have := HLN.out; omega
  have HB2 := Lib.hid (HB1.out.trans (hb2.mono HB1.out.size))
  clear hr hb2
  go_wp2_with fail
  go_ret
  exact ⟨rfl, HB2.out⟩

set_option maxHeartbeats 4000000 in
set_option maxRecDepth 100000 in
theorem hcheckAll_any (l : List BtV) (v : Value) (G : Nat → Prop) (w : World) (hv : RdBts w w.heap.size G v l) (hl : l.length ≤ 24) (ht : ∀ x ∈ l, x.t.Tiny) :
    Calls Tryz.prog 25 #[v] w fun e w' => e = .returned (.int .i64 0) ∧ Below w.heap.size w w' := by
  obtain ⟨A, c, rfl, -, -⟩ := hv.at
  have HV := Lib.hid hv
  have HT := Lib.hid ht
  have g1 : ¬ (24 : Int) < (l.length : Int) := by omega
  clear hv ht
  go_enter Tryz.func25, Tryz.ntmps25
  go_wp2_with fail
  go_loopw [11] (fun iv wr => ∃ i : Nat, i ≤ l.length ∧ iv = .int .i64 (i : Int) ∧ Hid (Below w.heap.size w wr)) (fun iv _ => l.length - (intOf iv).toNat)
  case atStart => exact ⟨0, Nat.zero_le _, rfl, Lib.hid (Below.refl _ _)⟩
  case round =>
    obtain ⟨i, hi, rfl, HB⟩ := hrel
    by_cases hgo : i < l.length
    · have h1 : (i : Int) < (l.length : Int) := by omega
      have hx1 := HV.out.next HB.out (fun _ _ h => h)
      have hp1 := (hx1.parts l[i] (List.getElem_mem hgo)).rd
      have htt := HT.out l[i] (List.getElem_mem hgo)
      obtain ⟨_, _, e0, -, hcell1⟩ := hx1.at
      injection e0 with e1 e2 e3
      subst e1 e3
      obtain ⟨b1, o1, rfl, hbl1, -, q1⟩ := hcell1 i hgo
      obtain ⟨k0, k1, k2, k3⟩ := q1 wr rfl
      generalize l[i] = x at hp1 htt k0 k1 k2 k3
      obtain ⟨t, a1, c1⟩ := x
      unfold BtV.v at hp1 k3
      simp only at hp1 htt k0 k1 k2 k3
      obtain ⟨w5, hw5⟩ : ∃ w5, w5 = wr.alloc (.cells #[.int .i64 t.prev, .int .i64 t.version, .int .i64 t.known, .slice a1 t.chgs.length c1] 38) := ⟨_, rfl⟩
      have hb5 : Below wr.heap.size wr w5 := by rw [hw5]; exact (Below.refl _ wr).alloc (Nat.le_refl _) _
      have hck := hcheck_any t htt a1 t.chgs.length c1 w5 (Rd.next (w := wr) hp1 hb5)
      unfold bval at hck
      have HCK := Lib.hid hck
      have HB5 := Lib.hid (HB.out.trans (hb5.mono HB.out.size))
      clear hx1 hp1 htt hcell1 q1 hb5 hck
      go_wp2_with fail
      rw [← hw5]
      clear hw5
      refine HCK.out.mono ?_
      rintro e w6 ⟨rfl, hb6⟩
      have HB6 := Lib.hid (HB5.out.trans (hb6.mono HB5.out.size))
      clear hb6 HCK
      go_wp2_with fail
      go_roundw
      case rel => exact ⟨i + 1, by omega, by go_num, HB6⟩
      case measure => simp [intOf]; omega
    · have h1 : ¬ (i : Int) < (l.length : Int) := by omega
      go_wp2_with fail
      go_ret
      exact ⟨rfl, HB.out⟩

set_option maxHeartbeats 2000000 in
set_option maxRecDepth 100000 in
/-- a text behind no bytes, in memory of the call's own -/
theorem putTextO_any (s : ByteArray) (w : World) (hs : s.size ≤ 65536) :
    Calls Tryz.prog 61 #[.slice none 0 0, .string s] w fun e w' => ∃ v', e = .returned (.tuple #[v', .int .i64 0]) ∧ OwnB w' w.heap.size v' (encT s.data.toList) ∧ Below w.heap.size w w' := by
  have hbe := behind_any [] (.slice none 0 0) w (Rd.nil _ _) (by simp)
  have HB := Lib.hid hbe; clear hbe
  go_enter Tryz.func61, Tryz.ntmps61
  go_wp2_with fail
  refine HB.out.mono ?_
  rintro e w1 ⟨p, rfl, hw, hb⟩
  have HW := Lib.hid hw; clear hw
  have HB1 := Lib.hid hb; clear hb
  go_wp2_with fail
  refine (wtext_any s hs _ p [] 0 w1 HW.out (by simp)).mono ?_
  rintro e w2 ⟨rfl, hw2, hb2⟩
  rw [List.nil_append] at hw2
  have HD := Lib.hid (wdoneO_any _ p (encT s.data.toList) 0 w2 hw2)
  have HB2 := Lib.hid hb2; clear hb2 hw2
  go_wp2_with fail
  refine HD.out.mono ?_
  rintro e w3 ⟨v', rfl, hr3, hb3⟩
  have HR3 := Lib.hid hr3; clear hr3
  have HB3 := Lib.hid hb3; clear hb3
  go_wp2_with fail
  go_ret2
  exact ⟨v', rfl, by simpa using HR3.out, (HB1.out.trans HB2.out).trans HB3.out⟩

set_option maxHeartbeats 2000000 in
set_option maxRecDepth 100000 in
theorem bequal_any (a b : List UInt8) (v u : Value) (w : World) (hv : RdB w w.heap.size v a) (hu : RdB w w.heap.size u b) :
    Calls Tryz.prog 29 #[v, u] w fun e w' => e = .returned (.bool (decide (a = b))) ∧ Below w.heap.size w w' := by
  have k1 := run_convB hv
  have k2 := run_convB hu
  obtain ⟨A, c, rfl, -, -⟩ := hv.at
  obtain ⟨A2, c2, rfl, -, -⟩ := hu.at
  have e : decide (a = b) = decide (strB a = strB b) := by
    refine decide_eq_decide.2 ⟨fun h => by rw [h], fun h => ?_⟩
    have h2 := congrArg (fun s : ByteArray => s.data.toList) h
    simpa [strB] using h2
  rw [e]
  clear e hv hu
  generalize strB a = s1 at k1 ⊢
  generalize strB b = s2 at k2 ⊢
  go_enter Tryz.func29, Tryz.ntmps29
  go_wp2_with fail
  go_ret
  exact ⟨rfl, Below.refl _ _⟩
end Go.Proofs.YtmigninibdecmaaGreat
