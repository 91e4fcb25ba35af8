/- Acts of a referee as they come in; the program's referee beside the law's own game. Numbers held against numbers, as the reference does. Acts of a referee as data. -/
import Derived.Test.YtgppgecglkellaaGreatFar
import Derived.Test.YtgppgecglkellaaGreatFas
import Derived.Test.YtgppgecglkellaaGreatFaq
import Derived.Test.YtgppgecglkellaaGreatFae
import Derived.Test.YtgppgecglkellaaGreatFac
namespace Go.Proofs.YtgppgecglkellaaGreat
open Go.RowKit

/-- one act, as it came in -/
structure RAct where
  what : Int
  ep : Int
  pv : Int
  ver : Int
  v : Value
  ts : List TxV
def encRA (a : RAct) : List Value := [.int .i64 a.what, .int .i64 a.ep, .int .i64 a.pv, .int .i64 a.ver, a.v]
theorem encRA_len (a : RAct) : (encRA a).length = 5 := rfl
theorem RdRA.at {w : World} {B : Nat} {v : Value} {l : List RAct} (h : Rd encRA 5 w B v l) : ∃ A c, v = .slice A l.length c ∧ l.length ≤ c ∧ ∀ i (_ : i < l.length), ∃ b o, A = some ⟨b, o, none⟩ ∧ b < B ∧
    w.cell? ⟨b, o + i * 5, none⟩ = some (.int .i64 l[i].what) ∧ w.cell? ⟨b, o + i * 5 + 1, none⟩ = some (.int .i64 l[i].ep) ∧ w.cell? ⟨b, o + i * 5 + 2, none⟩ = some (.int .i64 l[i].pv) ∧ w.cell? ⟨b, o + i * 5 + 3, none⟩ = some (.int .i64 l[i].ver) ∧ w.cell? ⟨b, o + i * 5 + 4, none⟩ = some l[i].v := by
  obtain ⟨A, c, hv, hc, hi⟩ := h
  refine ⟨A, c, hv, hc, fun i hs => ?_⟩
  obtain ⟨b, o, hA, hB, h1⟩ := hi i hs
  exact ⟨b, o, hA, hB, h1 0 _ rfl, h1 1 _ rfl, h1 2 _ rfl, h1 3 _ rfl, h1 4 _ rfl⟩
theorem Rf.judge_short (r : Rf) (h : r.told.length ≤ 4) (e p v : Int) (ts : List Txn) : (r.judge e p v ts).1.length ≤ 4 ∧ (r.judge e p v ts).2.2.told.length ≤ 4 := by
  have hj := jout_len r.mks v ts
  unfold Rf.judge
  split
  · exact ⟨by simp, h⟩
  split
  · exact ⟨h, h⟩
  split
  · exact ⟨by simp, h⟩
  split
  · exact ⟨by simp, h⟩
  split
  · exact ⟨by simp, h⟩
  · exact ⟨hj, hj⟩
/-- the program's referee at its blocks G, the law's game: apart -/
structure Two (w : World) (base q g : Nat) (G : Nat → Prop) (mo : Mo) (n n' : Nat) (r r0 : Rf) (tv : Value) : Prop where
  rf : RfAt w base q G n r
  gm : GmAt w base g mo n' r0 tv G
  off : ∀ i, GmD g mo i → ¬ G i
section
variable {w w' : World} {base q g n n' n1 : Nat} {G G' : Nat → Prop} {mo mo' : Mo} {r r0 r1 : Rf} {tv tv' : Value}
theorem Two.same (h : Two w base q g G mo n n' r r0 tv) (hb : Below w.heap.size w w') : Two w' base q g G mo n n' r r0 tv := ⟨h.rf.new hb, h.gm.new hb, h.off⟩
theorem Two.prog (h : Two w base q g G mo n n' r r0 tv) (hb : RfAt w' base q G' n1 r1) (hn : ∀ i, G' i → G i ∨ w.heap.size ≤ i) (hm : Mv G w w') : Two w' base q g G' mo n1 n' r1 r0 tv :=
  ⟨hb, h.gm.mv hm h.off (h.gm.tl.mono (Nat.le_refl _) (fun b hb hd => by
    rcases hd with (hd | hd) | hd
    · exact .inl hd
    · rcases hn b hd with k | k
      · exact .inr k
      · omega
    · exact .inr hd)), fun i hi hG => by
    rcases hn i hG with k | k
    · exact h.off i hi k
    · have := (h.gm.dom i hi).2; omega⟩
theorem Two.game (h : Two w base q g G mo n n' r r0 tv) (hg : GmAt w' base g mo' n1 r1 tv' G) (hd : ∀ i, GmD g mo' i → GmD g mo i ∨ w.heap.size ≤ i) (hm : Mv (GmD g mo) w w') : Two w' base q g G mo' n n1 r r1 tv' :=
  ⟨h.rf.mv hm (fun i hi hd => h.off i hd hi), hg, fun i hi hG => by
    rcases hd i hi with k | k
    · exact h.off i k hG
    · have := (h.rf.low.2 i hG).2; omega⟩
theorem Two.below (h : Two w base q g G mo n n' r r0 tv) (hm : Mv G w w') : Below base w w' := h.rf.below hm
theorem Two.belowg (h : Two w base q g G mo n n' r r0 tv) (hm : Mv (GmD g mo) w w') : Below base w w' := hm.below h.rf.low.1 (fun i hi => (h.gm.dom i hi).1)
theorem Two.fresh (h : Two w base q g G mo n n' r r0 tv) {i : Nat} (hi : w.heap.size ≤ i) : ¬ G i ∧ ¬ GmD g mo i :=
  ⟨fun hG => by have := (h.rf.low.2 i hG).2; omega, fun hd => by have := (h.gm.dom i hd).2; omega⟩
theorem Two.away (h : Two w base q g G mo n n' r r0 tv) {i : Nat} (hi : GmD g mo i) : Else w G i := ⟨h.off i hi, (h.gm.dom i hi).2⟩
theorem TxOk.offR {w w' : World} {v : Value} {ts : List TxV} (h : TxOk w v ts) (hb : Below w.heap.size w w') (hr : RfAt w' w.heap.size q G n r) : RdTx w' w'.heap.size G v ts :=
  (h.next hb).mono hb.size (fun b h1 h2 => by have := (hr.low.2 b h2).1; omega)
theorem RmAt.lower {B b p k : Nat} {ov : Option Nat} {m : Mk} (h : RmAt w B p ov k m) (hb : b ≤ B) : RmAt w b p ov k m := by
  obtain ⟨A3, cap3, L3, hw3, ho3, hov3, hf3, hn3, hp3⟩ := h.blk
  exact ⟨⟨A3, cap3, L3, hw3, ho3.lower hb, hov3, hf3, hn3, hp3⟩, ⟨Nat.le_trans hb h.low.1, Nat.le_trans hb h.low.2⟩, h.ok⟩
/-- a game that begins -/
theorem GmAt.fresh {w3 w4 : World} {v1 e : Int} {b g p : Nat} {X : Nat → Prop} (hp : RmAt w3 b p none 0 (mnew v1)) (hb : Below w3.heap.size w3 w4) (hW : Whole w4 g 30 [.int .i64 e, .int .i64 v1, .pointer (some ⟨p, 0, none⟩), .bool false, .slice none 0 0]) (hg : w3.heap.size ≤ g) (he : 1 ≤ e) : GmAt w4 b g (some (p, none)) 0 ⟨e, v1, mnew v1, false, []⟩ (.slice none 0 0) X := by
  have h1 := hp.size
  have h2 := hp.low
  have h3 := hb.size
  refine ⟨hW, RdG.none_ _ _ _ _ _, (fun h => by cases h), fun x hx => ?_, Nat.le_trans h2.2 hg, Nat.le_trans h2.2 h3⟩
  injection hx with hx
  subst hx
  exact ⟨by show e ≠ 0; omega, hp.new hb, by show p ≠ g; omega, by simp⟩
theorem GmAt.zero {w4 : World} {b g : Nat} {X : Nat → Prop} (hW : Whole w4 g 30 [.int .i64 0, .int .i64 0, .pointer none, .bool false, .slice none 0 0]) (hb : b ≤ g) : GmAt w4 b g none 0 Rf.new (.slice none 0 0) X :=
  ⟨hW, RdG.none_ _ _ _ _ _, fun _ => rfl, (fun x hx => by cases hx), hb, Nat.le_trans hb (Nat.le_of_lt hW.size)⟩
end
end Go.Proofs.YtgppgecglkellaaGreat
namespace Go.Proofs.YtgppgecglkellaaGreat
open Go.RowKit


set_option maxHeartbeats 1000000 in
set_option maxRecDepth 100000 in
theorem ints_any (a b : List Int) (va vb : Value) (w : World) (hva : RdI w w.heap.size va a) (hvb : RdI w w.heap.size vb b) (hla : a.length < 4611686018427387904) (_hlb : b.length < 4611686018427387904) :
    Calls Tryz.prog 13 #[va, vb] w fun e w' => e = .returned (.bool (decide (a = b))) ∧ Below w.heap.size w w' := by
  obtain ⟨A1, c1, rfl, hc1, hia⟩ := hva.at
  obtain ⟨A2, c2, rfl, hc2, hib⟩ := hvb.at
  obtain ⟨D, hD⟩ : ∃ D, D = decide (a = b) := ⟨_, rfl⟩
  rw [← hD]
  have HD := Lib.hid hD; clear hD
  clear hva hvb
  by_cases hlen : a.length = b.length
  · have HA := Lib.hid hia; clear hia
    have HB := Lib.hid hib; clear hib
    have HL := Lib.hid hlen
    rw [← hlen]
    rw [← hlen] at hc2
    clear hlen
    obtain ⟨g, hg⟩ : ∃ g, g = w.heap.size := ⟨_, rfl⟩
    have HG := Lib.hid hg; clear hg
    go_enter Tryz.func13, Tryz.ntmps13
    go_wp2_with fail
    go_loopw [5] (fun iv wr => ∃ j : Nat, j ≤ a.length ∧ iv = .int .i64 j ∧ Below g w wr ∧ ∀ k (h1 : k < a.length) (h2 : k < b.length), k < j → a[k] = b[k]) (fun iv _ => a.length - (intOf iv).toNat)
    case atStart => exact ⟨0, Nat.zero_le _, rfl, Below.refl _ _, fun k _ _ h => by omega⟩
    case round =>
      obtain ⟨j, hj, rfl, hbw, hall⟩ := hrel
      have HBW := Lib.hid hbw; clear hbw
      have HALL := Lib.hid hall; clear hall
      by_cases hlt : j < a.length
      · have hlt2 : j < b.length := by rw [← HL.out]; exact hlt
        obtain ⟨b1, o1, rfl, hb1, hx⟩ := HA.out j hlt
        obtain ⟨b2, o2, rfl, hb2, hy⟩ := HB.out j hlt2
        have hbd : Below w.heap.size w wr.drew := by have h := HBW.out.drew; rwa [HG.out] at h
        have hx2 : ∀ W, Below wr.drew.heap.size wr.drew W → W.cell? ⟨b1, o1 + j, none⟩ = some (.int .i64 a[j]) := fun W hW => ((hbd.trans (hW.mono hbd.size)).cell (p := ⟨b1, _, none⟩) hb1).trans hx
        have hy2 : ∀ W, Below wr.drew.heap.size wr.drew W → W.cell? ⟨b2, o2 + j, none⟩ = some (.int .i64 b[j]) := fun W hW => ((hbd.trans (hW.mono hbd.size)).cell (p := ⟨b2, _, none⟩) hb2).trans hy
        have hne : a[j] ≠ b[j] → D = false := fun h => by rw [HD.out]; exact decide_eq_false fun e => h (by subst e; rfl)
        have heq : a[j] = b[j] → ∀ k (h1 : k < a.length) (h2 : k < b.length), k < j + 1 → a[k] = b[k] := fun h k h1 h2 hk => by
          rcases Nat.lt_or_ge k j with h' | h'
          · exact HALL.out k h1 h2 h'
          · obtain rfl : k = j := by omega
            exact h
        generalize a[j] = x at hx2 hx hne heq
        generalize b[j] = y at hy2 hy hne heq
        have HX := Lib.hid hx2
        have HY := Lib.hid hy2
        have HNE := Lib.hid hne
        have HEQ := Lib.hid heq
        have hj0 : (0 : Int) ≤ (j : Int) := by omega
        have hj1 : (j : Int) < (a.length : Int) := by omega
        have HBD := Lib.hid hbd
        clear hx hy hx2 hy2 hne heq hbd hlt2
        by_cases hxy : x = y
        all_goals
          go_wp2_with fail
          refine wp_region_planB [(true, 0), (true, 1), (true, 2), (true, 3), (true, 4), (true, 5), (true, 6), (true, 7), (true, 8)] (by kernel_rfl) (by kernel_rfl) (fun _ _ d _ _ h => by cases d <;> exact h) ?_
          repeat (refine PlanB.take (v := ?_) rfl rfl ?_ ?_; rotate_left; (focus (intro W hW; have k1 := HX.out W hW; have k2 := HY.out W hW; go_simp; (try with_reducible rfl); done)); (try simp only [Act.put, List.setIfInBounds_toArray, List.set_cons_zero, List.set_cons_succ]))
          simp only [PlanB]
          go_wp2_with fail
        · go_roundw
          case rel => exact ⟨j + 1, by omega, by go_num, HBW.out.drew, HEQ.out hxy⟩
          case measure => simp [intOf]; omega
        · go_ret
          exact ⟨by rw [HNE.out hxy]; rfl, HBD.out⟩
      · go_wp2_with fail
        go_ret
        refine ⟨?_, by have h := HBW.out; rwa [HG.out] at h⟩
        have : D = true := by
          rw [HD.out]
          refine decide_eq_true (List.ext_getElem HL.out fun k h1 h2 => HALL.out k h1 h2 (by omega))
        rw [this]; rfl
  · have hd : D = false := by rw [HD.out]; exact decide_eq_false fun e => hlen (by rw [e])
    have HD2 := Lib.hid hd
    have hli : ¬ ((a.length : Int) = (b.length : Int)) := by omega
    clear hd hia hib
    go_enter Tryz.func13, Tryz.ntmps13
    go_wp2_with fail
    go_ret
    exact ⟨by rw [HD2.out]; rfl, Below.refl _ _⟩
end Go.Proofs.YtgppgecglkellaaGreat
namespace Go.Proofs.YtgppgecglkellaaGreat
open Go.ChangeShapes Go.WideShapes Go.ChangeAt Go.RowKit Go.Joins Go.Deep

section
variable {H : Type} {enc : TypeId × Value → H} {W : World} {base : Nat} {v : Value} {d : DataW H} {p : List MemPlace}
def RActD {H : Type} (W : World) (a : RAct) (d : DataW H) : Prop := Rd encTx 3 W W.heap.size a.v a.ts ∧ (I64 a.ep ∧ I64 a.pv ∧ I64 a.ver) ∧ ∃ y0 y1 y2 y3 y4, d = .agg [y0, y1, y2, y3, y4] ∧ SizedL (TxD W) y4 a.ts
set_option maxRecDepth 100000 in
theorem ract_of_cells {fuel : Nat} {cs : List Value} {x : DataW H × List MemPlace} (h : DataW.trod enc Tryz.prog W 0 (fun _ => true) true fuel 33 cs = some x) : ∃ a : RAct, cs = encRA a ∧ RActD W a x.1 := by
  obtain ⟨xs, n, _, hx, hl, hlen, hff⟩ := DataW.trod_struct Tryz.underlying33 h
  rw [show Tryz.prog.cellsOf 33 = 5 by kernel_rfl] at hl
  match cs, hl, xs, hlen, hff, hx with
  | [c0, c1, c2, c3, c4], _, [y0, y1, y2, y3, y4], _, hff, hx =>
    have k3 : Tryz.prog.cellsOf 3 = 1 := by kernel_rfl
    have kc : Tryz.prog.cellsOf 31 = 1 := by kernel_rfl
    have g0 := hff 0 _ rfl
    have g1 := hff 1 _ rfl
    have g2 := hff 2 _ rfl
    have g3 := hff 3 _ rfl
    have g4 := hff 4 _ rfl
    simp [k3, kc] at g0 g1 g2 g3 g4
    obtain ⟨i0, e0, _, w0⟩ := DataW.trod_int Tryz.underlying3 g0
    obtain ⟨i1, e1, _, w1⟩ := DataW.trod_int Tryz.underlying3 g1
    obtain ⟨i2, e2, _, w2⟩ := DataW.trod_int Tryz.underlying3 g2
    obtain ⟨i3, e3, _, w3⟩ := DataW.trod_int Tryz.underlying3 g3
    obtain ⟨hv, ht⟩ := slice_of Tryz.underlying31 g4
    obtain ⟨l, hr, hz⟩ := txs_of_slice hv ht
    simp at e0 e1 e2 e3
    refine ⟨⟨i0, i1, i2, i3, c4, l⟩, ?_, hr, ⟨int_of_wf w1, int_of_wf w2, int_of_wf w3⟩, y0.1, y1.1, y2.1, y3.1, y4.1, ?_, hz⟩
    · rw [e0, e1, e2, e3]; rfl
    · rw [hx]
      simp
set_option maxRecDepth 100000 in
theorem open_racts (hv : Value.okWide Tryz.prog W .any base 22 v) (h : DataW.Trod enc Tryz.prog W 0 (fun _ => true) true 22 v d p) (hw : ∀ n ∈ d.weights Tryz.prog 22, n ≤ reachBytes) :
    ∃ l : List RAct, Rd encRA 5 W W.heap.size v l ∧ l.length ≤ 140737488351232 ∧ ∀ a ∈ l, I64 a.ep ∧ I64 a.pv ∧ I64 a.ver ∧ TxOk W a.v a.ts := by
  haveI : Inhabited RAct := ⟨⟨0, 0, 0, 0, .bool false, []⟩⟩
  obtain ⟨l, hr, hz⟩ := open_rowsF (H := H) (e2 := encRA) (k := 5) (by decide) encRA_len Tryz.underlying22 (by kernel_rfl) (RActD W) (fun _ _ _ h => ract_of_cells h) (by obtain ⟨a, len, cap, rfl⟩ := okWide_slice Tryz.underlying22 hv; exact ⟨a, len, cap, rfl⟩) h
  refine ⟨l, hr, ?_⟩
  rcases hz with ⟨_, rfl⟩ | ⟨el, sp, rfl, he, hall⟩
  · simp
  · have h1 := slice_len Tryz.underlying22 hw
    rw [show Tryz.prog.bytesOf 33 = 56 by kernel_rfl] at h1
    refine ⟨by omega, fun s hs => ?_⟩
    obtain ⟨i, hi, rfl⟩ := List.getElem_of_mem hs
    obtain ⟨d', h2, h3, h4, y0, y1, y2, y3, y4, rfl, h5⟩ := hall i hi
    have hm := fun n hn => hw n (weights_el Tryz.underlying22 h2 hn)
    refine ⟨h4.1, h4.2.1, h4.2.2, tx_ok h3 h5 fun n hn => hm n ?_⟩
    simp only [DataW.weights, Tryz.underlying33, List.map_cons, List.map_nil, DataW.weightsEach, List.mem_append]
    simp only [hn, true_or, or_true]
end
end Go.Proofs.YtgppgecglkellaaGreat
