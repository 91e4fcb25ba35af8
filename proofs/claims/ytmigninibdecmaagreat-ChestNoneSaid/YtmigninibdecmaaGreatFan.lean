/- A record as bytes. A log with more batches. A log begins; a log of which some are gone. The epochs of a chest with one log. -/
import Derived.Test.YtmigninibdecmaaGreatFam
import Derived.Test.YtmigninibdecmaaGreatLayM
import Derived.Lib.MinMax
namespace Go.Proofs.YtmigninibdecmaaGreat
open Go.RowKit
attribute [local go_sem] less_eq same_eq le_eq ge_eq gt_eq

theorem RdI.whole {w : World} {g : Nat} {l : List Int} (h : Whole w g 3 (l.map fun n => .int .i64 n)) : RdI w w.heap.size (.slice (some ⟨g, 0, none⟩) l.length l.length) l := by
  refine ⟨_, l.length, rfl, Nat.le_refl _, fun i hi => ⟨g, 0, rfl, h.size, fun j u hu => ?_⟩⟩
  have hj : j = 0 := by
    rcases Nat.eq_zero_or_pos j with h | h
    · exact h
    · rw [encI, List.getElem?_eq_none (by simp; omega)] at hu
      cases hu
  subst hj
  have e : u = .int .i64 l[i] := by simpa [encI] using hu.symm
  subst e
  simpa using h.cell i (.int .i64 l[i]) (by simp [hi])
theorem strB_size (l : List UInt8) : (strB l).size = l.length := by simp [strB, ByteArray.size]
theorem strB_list (l : List UInt8) : (strB l).data.toList = l := by simp [strB]
theorem bats_step (l : List BtV) (i : Nat) (h : i < l.length) : Rc.bats ((l.take (i + 1)).map (·.t)) = Rc.bats ((l.take i).map (·.t)) ++ encT (batB l[i].t) := by
  rw [List.take_add_one, List.getElem?_eq_getElem h, List.map_append, Rc.bats_app]
  exact congrArg (Rc.bats ((l.take i).map (·.t)) ++ ·) (Rc.bats_one l[i].t)

set_option maxHeartbeats 8000000 in
set_option maxRecDepth 100000 in
theorem hbytes_any (r : Rc) (l : List BtV) (v : Value) (G : Nat → Prop) (w : World) (hr : r.Ok) (he : l.map (·.t) = r.list) (hv : RdBts w w.heap.size G v l) :
    Calls Tryz.prog 30 #[rcv r.kind r.epoch r.base r.known v] w fun e w' => ∃ v', e = .returned v' ∧ OwnB w' w.heap.size v' r.B ∧ Below w.heap.size w w' := by
  have hB : r.B = encT (encs r.nums) ++ Rc.bats (l.map (·.t)) := by rw [he]; rfl
  have hll : l.length ≤ 24 := by have := congrArg List.length he; rw [List.length_map] at this; rw [this]; exact hr.len
  have hT : ∀ x ∈ l, x.t.Tiny := fun x hx => hr.all x.t (he ▸ List.mem_map.2 ⟨x, hx, rfl⟩)
  have hans := hr.ans
  have hlt := hr.lt
  have hhd := hr.head
  rw [hB]
  obtain ⟨K, E, B, N, L⟩ := r
  simp only [Rc.nums] at hans hlt hhd ⊢
  obtain ⟨A, c, rfl, -, -⟩ := hv.at
  obtain ⟨w2, hw2⟩ : ∃ w2, w2 = (w.alloc (.cells #[.int .i64 K, .int .i64 E, .int .i64 B, .int .i64 N, .slice A l.length c] 65)).alloc (.cells #[.int .i64 K, .int .i64 E, .int .i64 B, .int .i64 N] 3) := ⟨_, rfl⟩
  have hb2 : Below w.heap.size w w2 := by rw [hw2]; exact ((Below.refl _ w).alloc (Nat.le_refl _) _).alloc (by simp) _
  have hR2 : Whole w2 w.heap.size 65 [.int .i64 K, .int .i64 E, .int .i64 B, .int .i64 N, .slice A l.length c] := by rw [hw2]; exact (Whole.fresh w _ [_, _, _, _, _]).alloc _
  have hI2 : Whole w2 (w.heap.size + 1) 3 ([K, E, B, N].map fun n => .int .i64 n) := by
    have := Whole.fresh (w.alloc (.cells #[.int .i64 K, .int .i64 E, .int .i64 B, .int .i64 N, .slice A l.length c] 65)) 3 [.int .i64 K, .int .i64 E, .int .i64 B, .int .i64 N]
    rw [hw2]; simpa using this
  have hnm := numsO_any [K, E, B, N] hlt _ w2 (RdI.whole hI2) (by simp)
  rw [hans] at hnm
  simp only [List.length_cons, List.length_nil, Nat.zero_add, Nat.reduceAdd] at hnm
  obtain ⟨H, hH⟩ : ∃ H, H = encs [K, E, B, N] := ⟨_, rfl⟩
  rw [← hH] at hnm hhd ⊢
  have HNM := Lib.hid hnm
  have HR2 := Lib.hid hR2
  have HB2 := Lib.hid hb2
  have HV := Lib.hid hv
  have HTN := Lib.hid hT
  have HHD := Lib.hid hhd
  clear hv hB he hr hT hans hlt hhd hb2 hR2 hI2 hnm hH
  unfold rcv
  go_enter Tryz.func30, Tryz.ntmps30
  go_wp2_with fail
  rw [← hw2]
  clear hw2
  refine HNM.out.mono ?_
  rintro e w3 ⟨v3, rfl, ho3, hb3⟩
  have kc := run_convB ho3.rdB
  obtain ⟨A3, c3, rfl, -, -⟩ := ho3.rdB.at
  have HB3 := Lib.hid (HB2.out.trans (hb3.mono HB2.out.size))
  have HR3 := Lib.hid (HR2.out.below hb3 HR2.out.size)
  have HP3 := Lib.hid (putTextO_any (strB H) w3 (by rw [strB_size]; have := HHD.out; omega))
  clear ho3 hb3 HNM HR2 HB2
  go_wp2_with fail
  refine HP3.out.mono ?_
  rintro e w4 ⟨v4, rfl, ho4, hb4⟩
  rw [strB_list] at ho4
  have ho4' : OwnB w4 w.heap.size v4 (encT H) := ho4.lower HB3.out.size
  obtain ⟨A4, n4, c4, rfl⟩ : ∃ A n c, v4 = .slice A n c := by
    obtain ⟨A, c, h, _⟩ := ho4.rdB.at
    exact ⟨A, _, c, h⟩
  have hR4 := HR3.out.below hb4 HR3.out.size
  have z4 := hR4.cell 4 _ rfl
  have HO4 := Lib.hid ho4'
  have HB4 := Lib.hid (HB3.out.trans (hb4.mono HB3.out.size))
  clear ho4 ho4' hb4 hR4 HP3 HB3 HR3 kc
  go_wp2_with fail
  clear z4
  go_loopw [5, 35] (fun ov iv wr => ∃ (i : Nat) (D : Option Addr) (n d : Nat), i ≤ l.length ∧ iv = .int .i64 (i : Int) ∧ ov = .slice D n d ∧ Hid (OwnB wr w.heap.size (.slice D n d) (encT H ++ Rc.bats ((l.take i).map (·.t)))) ∧ Hid (Below w.heap.size w wr)) (fun _ iv _ => l.length - (intOf iv).toNat)
  case atStart => exact ⟨0, A4, n4, c4, Nat.zero_le _, rfl, rfl, Lib.hid (by simpa [Rc.bats] using HO4.out), HB4⟩
  case round =>
    obtain ⟨i, D, n, d, hi, rfl, rfl, HO, HB⟩ := hrel
    by_cases hgo : i < l.length
    · have h1 : (i : Int) < (l.length : Int) := by omega
      have hx1 := HV.out.next HB.out (fun _ _ h => h)
      have hp1 := (hx1.parts l[i] (List.getElem_mem hgo)).rd
      have htt := HTN.out l[i] (List.getElem_mem hgo)
      have hst := bats_step l i hgo
      have hbl := Rc.bats_len ((l.take i).map (·.t)) (fun b hb => by
        obtain ⟨x, hx, rfl⟩ := List.mem_map.1 hb
        exact HTN.out x (List.mem_of_mem_take hx))
      rw [List.length_map, List.length_take] at hbl
      obtain ⟨_, _, e0, -, hcell1⟩ := hx1.at
      injection e0 with e1 e2 e3
      subst e1 e3
      obtain ⟨b1, o1, rfl, hbl1, -, q1⟩ := hcell1 i hgo
      obtain ⟨k0, k1, k2, k3⟩ := q1 wr rfl
      generalize l[i] = x at hp1 htt k0 k1 k2 k3 hst
      obtain ⟨t, a1, c1⟩ := x
      unfold BtV.v at hp1 k3
      simp only at hp1 htt k0 k1 k2 k3 hst
      obtain ⟨w5, hw5⟩ : ∃ w5, w5 = wr.alloc (.cells #[.int .i64 t.prev, .int .i64 t.version, .int .i64 t.known, .slice a1 t.chgs.length c1] 38) := ⟨_, rfl⟩
      have hb5 : Below wr.heap.size wr w5 := by rw [hw5]; exact (Below.refl _ wr).alloc (Nat.le_refl _) _
      have hck := pputBO_ok t htt.sound htt.lt htt.fitB (.slice a1 t.chgs.length c1) w5 (Rd.next (w := wr) hp1 hb5)
      unfold bval at hck
      have HCK := Lib.hid hck
      have HB5 := Lib.hid hb5
      have HTT := Lib.hid htt
      have HST := Lib.hid hst
      have HLN := Lib.hid (show (encT H ++ Rc.bats ((l.take i).map (·.t))).length ≤ 10000 from by
        rw [List.length_append, encT_small (by have := HHD.out; omega)]
        have := HHD.out
        omega)
      obtain ⟨P, hP⟩ : ∃ P, P = encT H ++ Rc.bats ((l.take i).map (·.t)) := ⟨_, rfl⟩
      rw [← hP] at HO HLN
      have HPP := Lib.hid hP
      clear hx1 hp1 htt hcell1 q1 hb5 hck hst hbl hP
      go_wp2_with fail
      rw [← hw5]
      clear hw5
      refine HCK.out.mono ?_
      rintro e w6 ⟨v6, rfl, ho6, hb6⟩
      have kc := run_convB ho6.rdB
      obtain ⟨A6, c6, rfl, -, -⟩ := ho6.rdB.at
      have HB6 := Lib.hid (HB5.out.trans (hb6.mono HB5.out.size))
      have HP6 := Lib.hid (putTextO_any (strB (batB t)) w6 (by rw [strB_size]; have := HTT.out.len; omega))
      clear ho6 hb6 HCK HB5
      go_wp2_with fail
      refine HP6.out.mono ?_
      rintro e w7 ⟨v7, rfl, ho7, hb7⟩
      rw [strB_list] at ho7
      have hr7 := ho7.rdB
      obtain ⟨A7, c7, rfl, -, -⟩ := ho7.rdB.at
      have HB7 := Lib.hid (HB6.out.trans (hb7.mono HB6.out.size))
      have HO7 := Lib.hid (Own.below HO.out HB7.out (Nat.le_refl _))
      have HW7 := Lib.hid (HB.out.trans (HB7.out.mono HB.out.size))
      have HR7 := Lib.hid hr7
      have HE7 := Lib.hid (show (encT (batB t)).length ≤ 81 from by rw [encT_small (by have := HTT.out.len; omega)]; have := HTT.out.len; omega)
      obtain ⟨Y, hY⟩ : ∃ Y, Y = encT (batB t) := ⟨_, rfl⟩
      rw [← hY] at HR7 HE7 HST ⊢
      clear ho7 hb7 hr7 HP6 HB6 kc HO hY
      obtain rfl : n = P.length := by
        obtain ⟨_, _, h, _⟩ := (OwnB.rdB HO7.out).at
        injection h
      go_wp2_with (at_builtin; go_must (refine wpList_addB rfl _ _ rfl w.heap.size (.slice D P.length d) P rfl HO7.out w7.heap.size (.slice A7 Y.length c7) Y rfl HR7.out (by have := HLN.out; have := HE7.out; omega) HW7.out.size w.heap.size w HW7.out (Nat.le_refl _) ?_))
      intro A8 c8 w8 ho8 hb8 hz8
      have HO8 := Lib.hid (show OwnB w8 w.heap.size (.slice A8 (P.length + Y.length) c8) (encT H ++ Rc.bats ((l.take (i + 1)).map (·.t))) from by
        rw [HST.out, ← List.append_assoc, ← HPP.out]
        exact ho8.out)
      clear ho8
      obtain ⟨n8, hn8⟩ : ∃ n8, n8 = P.length + Y.length := ⟨_, rfl⟩
      rw [← hn8] at HO8 ⊢
      clear hn8
      go_wp2_with fail
      go_roundw
      case rel => exact ⟨i + 1, A8, n8, c8, by omega, by go_num, rfl, HO8, hb8⟩
      case measure => simp [intOf]; omega
    · have h1 : ¬ (i : Int) < (l.length : Int) := by omega
      have hil : i = l.length := by omega
      have HE := Lib.hid (show OwnB wr w.heap.size (.slice D n d) (encT H ++ Rc.bats (l.map (·.t))) from by
        have := HO.out
        rw [hil, List.take_length] at this
        exact this)
      clear HO hil
      go_wp2_with fail
      go_ret
      exact ⟨_, rfl, HE.out, HB.out⟩
end Go.Proofs.YtmigninibdecmaaGreat
namespace Go.Proofs.YtmigninibdecmaaGreat
open Go.RowKit
attribute [local go_sem] less_eq same_eq le_eq ge_eq gt_eq

theorem topB_app : ∀ (a : Int) (l m : List Bat), topB a (l ++ m) = topB (topB a l) m
  | a, [], m => by rw [topB_nil]; rfl
  | a, x :: l, m => by rw [List.cons_append, topB_cons, topB_cons, topB_app]
theorem chainB_get {a : Int} {l : List BtV} (h : chainB a (l.map (·.t))) (i : Nat) (hi : i < l.length) : l[i].t.prev = topB a ((l.take i).map (·.t)) ∧ topB a ((l.take i).map (·.t)) < l[i].t.version := by
  have e : l.map (·.t) = (l.take i).map (·.t) ++ (l[i].t :: (l.drop (i + 1)).map (·.t)) := by
    rw [← List.map_cons (f := fun x : BtV => x.t), ← List.map_append, List.getElem_cons_drop, List.take_append_drop]
  rw [e] at h
  obtain ⟨_, h2, h3, _⟩ := chainB_app.1 h
  exact ⟨h2, h3⟩
theorem knownB_max (k : Int) (l : List Bat) (b : Bat) : knownB k (l ++ [b]) = max (knownB k l) b.known := by
  rw [knownB_add, Int.max_def]
  split <;> split <;> omega
theorem OwnBt.row {w : World} {base : Nat} {v : Value} {l : List BtV} (h : OwnBt w base v l) : RdG encBt 4 w w.heap.size (fun _ => False) v l := RdG.own encBt_len h (fun _ _ _ _ k => k)

set_option maxHeartbeats 16000000 in
set_option maxRecDepth 100000 in
theorem hwith_any (K E B N : Int) (F : Option Addr) (fl nf : Nat) (go kn : Int) (h : List BtV) (H : Option Addr) (nh : Nat) (l : List BtV) (v : Value) (base : Nat) (w : World)
    (ho : OwnBt w base (.slice H h.length nh) h) (hbase : base ≤ w.heap.size) (hv : RdBts w w.heap.size (fun i => Value.ownBlock (.slice H h.length nh) = some i) v l) (hc : chainB (topB go (h.map (·.t))) (l.map (·.t))) (hlen : h.length + l.length ≤ 24) :
    Calls Tryz.prog 36 #[lgv K E B N (.slice F fl nf) go kn (.slice H h.length nh), v] w fun e w' => ∃ A' n' c', e = .returned (.tuple #[lgv K E B N (.slice F fl nf) go (knownB kn (l.map (·.t))) (.slice A' n' c'), .bool true]) ∧ n' = (h ++ l).length ∧
      OwnBt w' base (.slice A' n' c') (h ++ l) ∧ Mv (fun i => Value.ownBlock (.slice H h.length nh) = some i) w w' ∧ NewRow w (Value.ownBlock (.slice H h.length nh)) (Value.ownBlock (.slice A' n' c')) := by
  obtain ⟨A, c, rfl, -, -⟩ := hv.at
  obtain ⟨w2, hw2⟩ : ∃ w2, w2 = (w.alloc (.cells #[.int .i64 K, .int .i64 E, .int .i64 B, .int .i64 N, .slice F fl nf, .int .i64 go, .int .i64 kn, .slice H h.length nh] 73)).alloc (.cells #[.int .i64 0, .int .i64 0, .int .i64 0, .int .i64 0, .slice none 0 0, .int .i64 0, .int .i64 0, .slice none 0 0] 73) := ⟨_, rfl⟩
  have hb2 : Below w.heap.size w w2 := by rw [hw2]; exact ((Below.refl _ w).alloc (Nat.le_refl _) _).alloc (by simp) _
  have hz2 : w2.heap.size = w.heap.size + 2 := by rw [hw2]; simp
  have hL2 : Whole w2 w.heap.size 73 [.int .i64 K, .int .i64 E, .int .i64 B, .int .i64 N, .slice F fl nf, .int .i64 go, .int .i64 kn, .slice H h.length nh] := by rw [hw2]; exact (Whole.fresh w _ [.int .i64 K, .int .i64 E, .int .i64 B, .int .i64 N, .slice F fl nf, .int .i64 go, .int .i64 kn, .slice H h.length nh]).alloc _
  have hR2 : Whole w2 (w.heap.size + 1) 73 [.int .i64 0, .int .i64 0, .int .i64 0, .int .i64 0, .slice none 0 0, .int .i64 0, .int .i64 0, .slice none 0 0] := by
    have := Whole.fresh (w.alloc (.cells #[.int .i64 K, .int .i64 E, .int .i64 B, .int .i64 N, .slice F fl nf, .int .i64 go, .int .i64 kn, .slice H h.length nh] 73)) 73 [.int .i64 0, .int .i64 0, .int .i64 0, .int .i64 0, .slice none 0 0, .int .i64 0, .int .i64 0, .slice none 0 0]
    rw [hw2]; simpa using this
  obtain ⟨lb, hlb⟩ : ∃ lb, lb = w.heap.size := ⟨_, rfl⟩
  obtain ⟨rb, hrb⟩ : ∃ rb, rb = w.heap.size + 1 := ⟨_, rfl⟩
  rw [← hlb] at hL2
  rw [← hrb] at hR2
  have hlrb : lb ≠ rb := by omega
  obtain ⟨ob, hob⟩ : ∃ ob, ob = Value.ownBlock (.slice H h.length nh) := ⟨_, rfl⟩
  rw [← hob] at hv ⊢
  have hstart : ∃ (m : Nat), m = (h ++ l.take 0).length ∧ Hid (Whole w2 lb 73 [.int .i64 K, .int .i64 E, .int .i64 B, .int .i64 N, .slice F fl nf, .int .i64 go, .int .i64 (knownB kn ((l.take 0).map (·.t))), .slice H m nh]) ∧ Hid (OwnBt w2 base (.slice H m nh) (h ++ l.take 0)) ∧ Hid (NewRow w ob (Value.ownBlock (.slice H m nh))) := by
    refine ⟨h.length, by simp, Lib.hid (by simpa [knownB_nil] using hL2), Lib.hid ?_, Lib.hid ?_⟩
    · simpa using Own.below ho hb2 (Nat.le_refl _)
    · rw [hob]; exact NewRow.refl _ _
  have HS := Lib.hid hstart
  have HR2 := Lib.hid hR2
  have HM2 := Lib.hid (show Mv (fun i => ob = some i) w w2 from Mv.of_new hb2 _)
  have HV := Lib.hid hv
  have HC := Lib.hid hc
  have HLB := Lib.hid (And.intro hlb hrb)
  have HBASE := Lib.hid hbase
  have HLEN := Lib.hid hlen
  unfold lgv
  clear ho hbase hv hc hb2 hz2 hL2 hR2 hob hstart hlen
  go_enter Tryz.func36, Tryz.ntmps36
  go_wp2_with fail
  rw [← hw2, ← hrb, ← hlb]
  clear hw2 hrb hlb
  go_loopw [10] (fun iv wr => ∃ (i : Nat) (X : Option Addr) (m x : Nat), i ≤ l.length ∧ iv = .int .i64 (i : Int) ∧ m = (h ++ l.take i).length ∧ Hid (Whole wr lb 73 [.int .i64 K, .int .i64 E, .int .i64 B, .int .i64 N, .slice F fl nf, .int .i64 go, .int .i64 (knownB kn ((l.take i).map (·.t))), .slice X m x]) ∧ Hid (OwnBt wr base (.slice X m x) (h ++ l.take i)) ∧ Hid (NewRow w ob (Value.ownBlock (.slice X m x))) ∧ Hid (Whole wr rb 73 [.int .i64 0, .int .i64 0, .int .i64 0, .int .i64 0, .slice none 0 0, .int .i64 0, .int .i64 0, .slice none 0 0]) ∧ Hid (Mv (fun i => ob = some i) w wr)) (fun iv _ => l.length - (intOf iv).toNat)
  case atStart =>
    obtain ⟨m, h1, h2, h3, h4⟩ := HS.out
    exact ⟨0, H, m, nh, Nat.zero_le _, rfl, h1, h2, h3, h4, HR2, HM2⟩
  case round =>
    obtain ⟨i, X, m, x, hi, rfl, hm, HL, HO, HN, HR, HM⟩ := hrel
    by_cases hgo : i < l.length
    · have h1 : (i : Int) < (l.length : Int) := by omega
      have hl24 : l.length ≤ 24 := by have := HLEN.out; omega
      have hx1 := HV.out.mv HM.out (Nat.le_refl _) (fun _ _ k => k)
      have hcg := chainB_get HC.out i hgo
      rw [← topB_app, ← List.map_append] at hcg
      obtain ⟨_, _, e0, -, hcell1⟩ := hx1.at
      injection e0 with e1 e2 e3
      subst e1 e3
      obtain ⟨b1, o1, rfl, hbl1, -, q1⟩ := hcell1 i hgo
      obtain ⟨k0, k1, k2, k3⟩ := q1 wr rfl
      have hst1 : h ++ l.take (i + 1) = (h ++ l.take i) ++ [l[i]] := by rw [List.take_add_one, List.getElem?_eq_getElem hgo, List.append_assoc]; rfl
      have hst2 : (l.take (i + 1)).map (·.t) = (l.take i).map (·.t) ++ [l[i].t] := by rw [List.take_add_one, List.getElem?_eq_getElem hgo, List.map_append]; rfl
      have hml : m < 24 := by
        have := HLEN.out
        rw [hm, List.length_append, List.length_take]
        omega
      generalize l[i] = y at k0 k1 k2 k3 hcg hst1 hst2
      obtain ⟨t, a1, c1⟩ := y
      obtain ⟨p, ve, kw, cs⟩ := t
      unfold BtV.v at k3
      simp only at k0 k1 k2 k3 hcg hst1 hst2
      have hk9 := knownB_max kn ((l.take i).map (·.t)) ⟨p, ve, kw, cs⟩
      rw [← hst2] at hk9
      obtain ⟨Q, hQ⟩ : ∃ Q, Q = h ++ l.take i := ⟨_, rfl⟩
      rw [← hQ] at hm hst1 hcg HO
      obtain ⟨T, hT⟩ : ∃ T, T = topB go (Q.map (·.t)) := ⟨_, rfl⟩
      obtain ⟨kk, hkk⟩ : ∃ kk, kk = knownB kn ((l.take i).map (·.t)) := ⟨_, rfl⟩
      rw [← hkk] at hk9 HL
      rw [← hT] at hcg
      obtain ⟨hp, hve⟩ := hcg
      subst hp
      obtain ⟨w5, hw5⟩ : ∃ w5, w5 = wr.alloc (.cells #[.int .i64 p, .int .i64 ve, .int .i64 kw, .slice a1 cs.length c1] 38) := ⟨_, rfl⟩
      have hb5 : Below wr.heap.size wr w5 := by rw [hw5]; exact (Below.refl _ wr).alloc (Nat.le_refl _) _
      have hG5 : Whole w5 wr.heap.size 38 [.int .i64 p, .int .i64 ve, .int .i64 kw, .slice a1 cs.length c1] := by rw [hw5]; exact Whole.fresh wr _ [_, _, _, _]
      obtain ⟨gb, hgb⟩ : ∃ gb, gb = wr.heap.size := ⟨_, rfl⟩
      rw [← hgb] at hG5
      have hL5 := HL.out.below hb5 HL.out.size
      have HST := Lib.hid hst1
      have HK9 := Lib.hid hk9
      have HQ := Lib.hid hQ
      have HT := Lib.hid hT
      have hnv : ¬ ve ≤ p := by omega
      have hnd : decide (ve ≤ p) = false := decide_eq_false hnv
      have hn24 : ¬ (24 : Int) ≤ (m : Int) := by omega
      have hn24d : decide ((24 : Int) ≤ (m : Int)) = false := decide_eq_false hn24
      have hn24e : ¬ (24 : Nat) ≤ m := by omega
      have HD := Lib.hid (And.intro (And.intro hnv hnd) (And.intro hn24 (And.intro hn24d hn24e)))
      have HML := Lib.hid (And.intro hm hml)
      have HO5 := Lib.hid (Own.below HO.out hb5 (Nat.le_refl _))
      have HB5 := Lib.hid hb5
      have HGB := Lib.hid hgb
      have HGX := Lib.hid (show ∀ g, Value.ownBlock (.slice X m x) = some g → g < gb from fun g hg => by rw [HGB.out]; exact (Own.low HO.out hg).2)
      have HGL := Lib.hid (show gb ≠ lb ∧ gb ≠ rb from ⟨fun e => by have := HL.out.size; omega, fun e => by have := HR.out.size; omega⟩)
      clear hx1 hcell1 q1 hb5 hst1 hst2 hk9 hQ hT hve hkk hnv hnd hn24 hn24d hn24e hm hml
      go_wp2_with fail
      rw [← hw5, ← hgb]
      clear hw5 hgb k0 k1 k2 k3
      obtain ⟨wd, hwd⟩ : ∃ wd, wd = w5.drew := ⟨_, rfl⟩
      have hbd : Below w5.heap.size w5 wd := by rw [hwd]; exact (Below.refl _ w5).drew
      have hC : ∀ W, Below wd.heap.size wd W → (W.cell? ⟨gb, 0, none⟩ = some (.int .i64 p) ∧ W.cell? ⟨gb, 1, none⟩ = some (.int .i64 ve)) ∧ W.cell? ⟨lb, 0, none⟩ = some (.int .i64 K) ∧ W.cell? ⟨lb, 1, none⟩ = some (.int .i64 E) ∧ W.cell? ⟨lb, 2, none⟩ = some (.int .i64 B) ∧ W.cell? ⟨lb, 3, none⟩ = some (.int .i64 N) ∧ W.cell? ⟨lb, 4, none⟩ = some (.slice F fl nf) ∧ W.cell? ⟨lb, 5, none⟩ = some (.int .i64 go) ∧ W.cell? ⟨lb, 6, none⟩ = some (.int .i64 kk) ∧ W.cell? ⟨lb, 7, none⟩ = some (.slice X m x) := fun W hW => by
        have g1 := (hG5.below hbd hG5.size).below hW (Nat.lt_of_lt_of_le hG5.size hbd.size)
        have g2 := (hL5.below hbd hL5.size).below hW (Nat.lt_of_lt_of_le hL5.size hbd.size)
        exact ⟨⟨g1.cell 0 _ rfl, g1.cell 1 _ rfl⟩, g2.cell 0 _ rfl, g2.cell 1 _ rfl, g2.cell 2 _ rfl, g2.cell 3 _ rfl, g2.cell 4 _ rfl, g2.cell 5 _ rfl, g2.cell 6 _ rfl, g2.cell 7 _ rfl⟩
      have HCL := Lib.hid hC
      have HG5 := Lib.hid (hG5.below hbd hG5.size)
      have HL5 := Lib.hid (hL5.below hbd hL5.size)
      have HOD := Lib.hid (Own.below HO5.out hbd (Nat.le_refl _))
      have hbdw : Below wr.heap.size wr wd := HB5.out.trans (hbd.mono HB5.out.size)
      refine wp_region_planB [(true, 0), (true, 1), (true, 2), (false, 3), (true, 4), (true, 5), (true, 6), (true, 7), (true, 8), (false, 9), (true, 10), (true, 11), (true, 12), (true, 13), (true, 14), (true, 15), (true, 16), (true, 17)] (by kernel_rfl) (by kernel_rfl) (fun _ _ d _ _ h => by cases d <;> exact h) ?_
      rw [← hwd]
      clear hC hG5 hL5 hbd hwd HO5 HB5
      have HBD := Lib.hid hbdw
      clear hbdw
      (refine PlanB.take (v := ?_) rfl rfl ?_ ?_; rotate_left; (focus (intro W hW; obtain ⟨⟨k0, k1⟩, k2, k3, k4, k5, k6, k7, k8, k9⟩ := HCL.out W (hW); obtain ⟨⟨d1, d2⟩, d3, d4, d5⟩ := HD.out; go_simp; (try with_reducible rfl); done)); (try simp only [Act.put, List.setIfInBounds_toArray, List.set_cons_zero, List.set_cons_succ]))
      (refine PlanB.take (v := ?_) rfl rfl ?_ ?_; rotate_left; (focus (intro W hW; obtain ⟨⟨k0, k1⟩, k2, k3, k4, k5, k6, k7, k8, k9⟩ := HCL.out W (hW); obtain ⟨⟨d1, d2⟩, d3, d4, d5⟩ := HD.out; go_simp; (try with_reducible rfl); done)); (try simp only [Act.put, List.setIfInBounds_toArray, List.set_cons_zero, List.set_cons_succ]))
      (refine PlanB.take (v := ?_) rfl rfl ?_ ?_; rotate_left; (focus (intro W hW; obtain ⟨⟨k0, k1⟩, k2, k3, k4, k5, k6, k7, k8, k9⟩ := HCL.out W (hW); obtain ⟨⟨d1, d2⟩, d3, d4, d5⟩ := HD.out; go_simp; (try with_reducible rfl); done)); (try simp only [Act.put, List.setIfInBounds_toArray, List.set_cons_zero, List.set_cons_succ]))
      refine PlanB.step rfl rfl (fun Kk hK => ?_)
      go_simp
      go_at_call 35
      have hto := htop_any K E B N F fl nf go kk Q X x (fun _ => False) wd (by have := OwnBt.row HOD.out; rw [(HML.out).1] at this; exact this) (by have := HML.out.1; have := HML.out.2; omega)
      unfold lgv at hto
      rw [← HT.out, ← HML.out.1] at hto
      refine hto.mono ?_
      rintro e w6 ⟨rfl, hb6⟩
      have HB6 := Lib.hid hb6
      refine hK.out _ _ hb6 ?_
      clear hK Kk hto hb6
      (try simp only [Act.put, List.setIfInBounds_toArray, List.set_cons_zero, List.set_cons_succ])
      (refine PlanB.take (v := ?_) rfl rfl ?_ ?_; rotate_left; (focus (intro W hW; obtain ⟨⟨k0, k1⟩, k2, k3, k4, k5, k6, k7, k8, k9⟩ := HCL.out W (HB6.out.trans (hW.mono HB6.out.size)); obtain ⟨⟨d1, d2⟩, d3, d4, d5⟩ := HD.out; go_simp; (try with_reducible rfl); done)); (try simp only [Act.put, List.setIfInBounds_toArray, List.set_cons_zero, List.set_cons_succ]))
      (refine PlanB.take (v := ?_) rfl rfl ?_ ?_; rotate_left; (focus (intro W hW; obtain ⟨⟨k0, k1⟩, k2, k3, k4, k5, k6, k7, k8, k9⟩ := HCL.out W (HB6.out.trans (hW.mono HB6.out.size)); obtain ⟨⟨d1, d2⟩, d3, d4, d5⟩ := HD.out; go_simp; (try with_reducible rfl); done)); (try simp only [Act.put, List.setIfInBounds_toArray, List.set_cons_zero, List.set_cons_succ]))
      (refine PlanB.take (v := ?_) rfl rfl ?_ ?_; rotate_left; (focus (intro W hW; obtain ⟨⟨k0, k1⟩, k2, k3, k4, k5, k6, k7, k8, k9⟩ := HCL.out W (HB6.out.trans (hW.mono HB6.out.size)); obtain ⟨⟨d1, d2⟩, d3, d4, d5⟩ := HD.out; go_simp; (try with_reducible rfl); done)); (try simp only [Act.put, List.setIfInBounds_toArray, List.set_cons_zero, List.set_cons_succ]))
      (refine PlanB.take (v := ?_) rfl rfl ?_ ?_; rotate_left; (focus (intro W hW; obtain ⟨⟨k0, k1⟩, k2, k3, k4, k5, k6, k7, k8, k9⟩ := HCL.out W (HB6.out.trans (hW.mono HB6.out.size)); obtain ⟨⟨d1, d2⟩, d3, d4, d5⟩ := HD.out; go_simp; (try with_reducible rfl); done)); (try simp only [Act.put, List.setIfInBounds_toArray, List.set_cons_zero, List.set_cons_succ]))
      (refine PlanB.take (v := ?_) rfl rfl ?_ ?_; rotate_left; (focus (intro W hW; obtain ⟨⟨k0, k1⟩, k2, k3, k4, k5, k6, k7, k8, k9⟩ := HCL.out W (HB6.out.trans (hW.mono HB6.out.size)); obtain ⟨⟨d1, d2⟩, d3, d4, d5⟩ := HD.out; go_simp; (try with_reducible rfl); done)); (try simp only [Act.put, List.setIfInBounds_toArray, List.set_cons_zero, List.set_cons_succ]))
      refine PlanB.step rfl rfl (fun Kk hK => ?_)
      go_simp
      go_at_call 35
      have hto := htop_any K E B N F fl nf go kk Q X x (fun _ => False) w6 (by have := OwnBt.row (Own.below HOD.out HB6.out (Nat.le_refl _)); rw [(HML.out).1] at this; exact this) (by have := HML.out.1; have := HML.out.2; omega)
      unfold lgv at hto
      rw [← HT.out, ← HML.out.1] at hto
      refine hto.mono ?_
      rintro e w7 ⟨rfl, hb7⟩
      refine hK.out _ _ hb7 ?_
      have HB7 := Lib.hid (HB6.out.trans (hb7.mono HB6.out.size))
      clear hK Kk hto hb7
      (try simp only [Act.put, List.setIfInBounds_toArray, List.set_cons_zero, List.set_cons_succ])
      (refine PlanB.take (v := ?_) rfl rfl ?_ ?_; rotate_left; (focus (intro W hW; obtain ⟨⟨k0, k1⟩, k2, k3, k4, k5, k6, k7, k8, k9⟩ := HCL.out W (HB7.out.trans (hW.mono HB7.out.size)); obtain ⟨⟨d1, d2⟩, d3, d4, d5⟩ := HD.out; go_simp; (try with_reducible rfl); done)); (try simp only [Act.put, List.setIfInBounds_toArray, List.set_cons_zero, List.set_cons_succ]))
      (refine PlanB.take (v := ?_) rfl rfl ?_ ?_; rotate_left; (focus (intro W hW; obtain ⟨⟨k0, k1⟩, k2, k3, k4, k5, k6, k7, k8, k9⟩ := HCL.out W (HB7.out.trans (hW.mono HB7.out.size)); obtain ⟨⟨d1, d2⟩, d3, d4, d5⟩ := HD.out; go_simp; (try with_reducible rfl); done)); (try simp only [Act.put, List.setIfInBounds_toArray, List.set_cons_zero, List.set_cons_succ]))
      (refine PlanB.take (v := ?_) rfl rfl ?_ ?_; rotate_left; (focus (intro W hW; obtain ⟨⟨k0, k1⟩, k2, k3, k4, k5, k6, k7, k8, k9⟩ := HCL.out W (HB7.out.trans (hW.mono HB7.out.size)); obtain ⟨⟨d1, d2⟩, d3, d4, d5⟩ := HD.out; go_simp; (try with_reducible rfl); done)); (try simp only [Act.put, List.setIfInBounds_toArray, List.set_cons_zero, List.set_cons_succ]))
      (refine PlanB.take (v := ?_) rfl rfl ?_ ?_; rotate_left; (focus (intro W hW; obtain ⟨⟨k0, k1⟩, k2, k3, k4, k5, k6, k7, k8, k9⟩ := HCL.out W (HB7.out.trans (hW.mono HB7.out.size)); obtain ⟨⟨d1, d2⟩, d3, d4, d5⟩ := HD.out; go_simp; (try with_reducible rfl); done)); (try simp only [Act.put, List.setIfInBounds_toArray, List.set_cons_zero, List.set_cons_succ]))
      (refine PlanB.take (v := ?_) rfl rfl ?_ ?_; rotate_left; (focus (intro W hW; obtain ⟨⟨k0, k1⟩, k2, k3, k4, k5, k6, k7, k8, k9⟩ := HCL.out W (HB7.out.trans (hW.mono HB7.out.size)); obtain ⟨⟨d1, d2⟩, d3, d4, d5⟩ := HD.out; go_simp; (try with_reducible rfl); done)); (try simp only [Act.put, List.setIfInBounds_toArray, List.set_cons_zero, List.set_cons_succ]))
      (refine PlanB.take (v := ?_) rfl rfl ?_ ?_; rotate_left; (focus (intro W hW; obtain ⟨⟨k0, k1⟩, k2, k3, k4, k5, k6, k7, k8, k9⟩ := HCL.out W (HB7.out.trans (hW.mono HB7.out.size)); obtain ⟨⟨d1, d2⟩, d3, d4, d5⟩ := HD.out; go_simp; (try with_reducible rfl); done)); (try simp only [Act.put, List.setIfInBounds_toArray, List.set_cons_zero, List.set_cons_succ]))
      (refine PlanB.take (v := ?_) rfl rfl ?_ ?_; rotate_left; (focus (intro W hW; obtain ⟨⟨k0, k1⟩, k2, k3, k4, k5, k6, k7, k8, k9⟩ := HCL.out W (HB7.out.trans (hW.mono HB7.out.size)); obtain ⟨⟨d1, d2⟩, d3, d4, d5⟩ := HD.out; go_simp; (try with_reducible rfl); done)); (try simp only [Act.put, List.setIfInBounds_toArray, List.set_cons_zero, List.set_cons_succ]))
      (refine PlanB.take (v := ?_) rfl rfl ?_ ?_; rotate_left; (focus (intro W hW; obtain ⟨⟨k0, k1⟩, k2, k3, k4, k5, k6, k7, k8, k9⟩ := HCL.out W (HB7.out.trans (hW.mono HB7.out.size)); obtain ⟨⟨d1, d2⟩, d3, d4, d5⟩ := HD.out; go_simp; (try with_reducible rfl); done)); (try simp only [Act.put, List.setIfInBounds_toArray, List.set_cons_zero, List.set_cons_succ]))
      simp only [PlanB]
      have hG7 := HG5.out.below HB7.out HG5.out.size
      have hL7 := HL5.out.below HB7.out HL5.out.size
      have hO7 := Own.below HOD.out HB7.out (Nat.le_refl _)
      have hB7 := HBD.out.trans (HB7.out.mono HBD.out.size)
      have hR7 := HR.out.below hB7 HR.out.size
      have hM7 : Mv (fun i => ob = some i) w w7 := HM.out.trans (Mv.of_new hB7 (fun _ => False)) (fun _ _ k => k.elim)
      have hN7 := HN.out
      have hone := Rd.one w7 ⟨⟨p, ve, kw, cs⟩, a1, c1⟩ 38
      have y0 := hG7.cell 0 _ rfl
      have y1 := hG7.cell 1 _ rfl
      have y2 := hG7.cell 2 _ rfl
      have y3 := hG7.cell 3 _ rfl
      have u7 := hL7.cell 7 _ rfl
      have HO7 := Lib.hid (Own.alloc hO7 (.cells #[.int .i64 p, .int .i64 ve, .int .i64 kw, .slice a1 cs.length c1] 38))
      have HON := Lib.hid (show Rd encBt 4 (w7.alloc (.cells #[.int .i64 p, .int .i64 ve, .int .i64 kw, .slice a1 cs.length c1] 38)) (w7.heap.size + 1) (.slice (some ⟨w7.heap.size, 0, none⟩) 1 1) [⟨⟨p, ve, kw, cs⟩, a1, c1⟩] from hone)
      have HG7 := Lib.hid hG7
      have HL7 := Lib.hid hL7
      have HR7 := Lib.hid hR7
      have HM7 := Lib.hid (And.intro hM7 (Nat.le_trans HBASE.out hM7.size))
      clear hG7 hL7 hO7 hB7 hR7 hM7 hN7 hone HB7 HB6 HBD HOD HG5 HL5 HCL HL HO
      obtain rfl : m = Q.length := HML.out.1
      go_wp2_with (at_builtin; go_must (refine wpList_addT rfl _ _ rfl base (.slice X Q.length x) Q rfl HO7.out (w7.heap.size + 1) _ [⟨⟨p, ve, kw, cs⟩, a1, c1⟩] rfl HON.out (by show _ + 1 ≤ _; have := HML.out.2; omega) (Nat.le_trans HM7.out.2 (by simp)) ?_))
      rintro A8 c8 w8 HO8 HG8 HN8
      have hL8 := (HL7.out.alloc (.cells #[.int .i64 p, .int .i64 ve, .int .i64 kw, .slice a1 cs.length c1] 38)).grown HG8.out (Own.apart HO7.out (HL7.out.alloc _) (by decide))
      have hR8 := (HR7.out.alloc (.cells #[.int .i64 p, .int .i64 ve, .int .i64 kw, .slice a1 cs.length c1] 38)).grown HG8.out (Own.apart HO7.out (HR7.out.alloc _) (by decide))
      have hG8 := (HG7.out.alloc (.cells #[.int .i64 p, .int .i64 ve, .int .i64 kw, .slice a1 cs.length c1] 38))
      have hM8 : Mv (fun i => ob = some i) w w8 := (HM7.out.1.alloc _).grown HG8.out (fun i hi he => by
        rcases HN.out i he.symm with k | k
        · exact k
        · omega)
      have hN8 : NewRow w ob (Value.ownBlock (.slice A8 (Q.length + 1) c8)) := HN.out.trans HN8.out (Nat.le_trans HM7.out.1.size (Nat.le_trans (Nat.le_succ _) (Nat.le_of_eq (World.size_alloc _ _).symm)))
      have hG8' := hG8.grown HG8.out (fun e => by have := HGX.out gb e.symm; omega)
      have v6 := hL8.cell 6 _ rfl
      have v7 := hL8.cell 7 _ rfl
      have f6 := hL8.frozen 6
      have f7 := hL8.frozen 7
      have x2 := hG8'.cell 2 _ rfl
      have hne1 : gb ≠ lb := HGL.out.1
      have hne2 : lb ≠ gb := fun e => hne1 e.symm
      have hls := hL8.size
      have hO8 := HO8.out
      obtain ⟨n8, hn8⟩ : ∃ n8, n8 = Q.length + 1 := ⟨_, rfl⟩
      rw [← hn8] at hO8 hN8
      have HOK := Lib.hid (And.intro hn8 hO8)
      have HL8 := Lib.hid hL8
      have HR8 := Lib.hid hR8
      have HM8 := Lib.hid hM8
      have HN9 := Lib.hid hN8
      (try simp only [List.length_append, List.length_cons, List.length_nil, Nat.zero_add])
      rw [← hn8]
      clear hL8 hR8 hG8 hM8 hN8 hG8' hO8 hn8 HO8 HG8 HN8 HO7 HON HG7 HL7 HR7 HM7 y0 y1 y2 y3 u7
      go_wp2_with fail
      go_roundw
      case rel =>
        have hL9 := (HL8.out.put 7 (.slice A8 n8 c8)).put 6 (.int .i64 (max kk kw))
        simp only [List.set] at hL9
        refine ⟨i + 1, A8, n8, c8, by omega, by go_num, by rw [HOK.out.1, HST.out]; simp, ?_, ?_, HN9, ?_, ?_⟩
        · rw [HK9.out]; exact Lib.hid hL9
        · rw [HST.out]; exact Lib.hid (Own.put (Own.put HOK.out.2 HL8.out (by decide) 7 _) (HL8.out.put 7 _) (by decide) 6 _)
        · exact Lib.hid ((HR8.out.away (p := ⟨lb, 7, none⟩) (fun e => hlrb e.symm) _).away (p := ⟨lb, 6, none⟩) (fun e => hlrb e.symm) _)
        · have hlw := HLB.out.1
          exact Lib.hid ((HM8.out.setCell (p := ⟨lb, 7, none⟩) (fun hh => by simp only at hh; omega) _).setCell (p := ⟨lb, 6, none⟩) (fun hh => by simp only at hh; omega) _)
      case measure => simp [intOf]; omega
    · have h1 : ¬ (i : Int) < (l.length : Int) := by omega
      have hil : i = l.length := by omega
      rw [hil, List.take_length] at HL HO
      rw [hil, List.take_length] at hm
      have HM' := Lib.hid hm
      have u0 := HL.out.cell 0 _ rfl
      have u1 := HL.out.cell 1 _ rfl
      have u2 := HL.out.cell 2 _ rfl
      have u3 := HL.out.cell 3 _ rfl
      have u4 := HL.out.cell 4 _ rfl
      have u5 := HL.out.cell 5 _ rfl
      have u6 := HL.out.cell 6 _ rfl
      have u7 := HL.out.cell 7 _ rfl
      have z0 := HR.out.cell 0 _ rfl
      have z1 := HR.out.cell 1 _ rfl
      have z2 := HR.out.cell 2 _ rfl
      have z3 := HR.out.cell 3 _ rfl
      have z4 := HR.out.cell 4 _ rfl
      have z5 := HR.out.cell 5 _ rfl
      have z6 := HR.out.cell 6 _ rfl
      have z7 := HR.out.cell 7 _ rfl
      have f0 := HR.out.frozen 0
      have f1 := HR.out.frozen 1
      have f2 := HR.out.frozen 2
      have f3 := HR.out.frozen 3
      have f4 := HR.out.frozen 4
      have f5 := HR.out.frozen 5
      have f6 := HR.out.frozen 6
      have f7 := HR.out.frozen 7
      have hrs := HR.out.size
      have hls := HL.out.size
      have hlrb2 : rb ≠ lb := fun e => hlrb e.symm
      obtain ⟨kk, hkk⟩ : ∃ kk, kk = knownB kn (l.map (·.t)) := ⟨_, rfl⟩
      rw [← hkk] at u6
      have HKK := Lib.hid hkk
      clear hm hil hkk
      go_wp2_with fail
      have hZ := ((((((((HR.out.put 0 (.int .i64 K)).put 1 (.int .i64 E)).put 2 (.int .i64 B)).put 3 (.int .i64 N)).put 4 (.slice F fl nf)).put 5 (.int .i64 go)).put 6 (.int .i64 kk)).put 7 (.slice X m x))
      simp only [List.set] at hZ
      have R0 := hZ.cell 0 _ rfl
      have R1 := hZ.cell 1 _ rfl
      have R2 := hZ.cell 2 _ rfl
      have R3 := hZ.cell 3 _ rfl
      have R4 := hZ.cell 4 _ rfl
      have R5 := hZ.cell 5 _ rfl
      have R6 := hZ.cell 6 _ rfl
      have R7 := hZ.cell 7 _ rfl
      have hmo := (((((((((Mv.refl (fun i => i = rb) wr).one 0 (.int .i64 K)).one 1 (.int .i64 E)).one 2 (.int .i64 B)).one 3 (.int .i64 N)).one 4 (.slice F fl nf)).one 5 (.int .i64 go)).one 6 (.int .i64 kk)).one 7 (.slice X m x))
      have hbt := OwnBt.mv HO.out hmo (fun g hg e => by subst e; exact Own.apart HO.out HR.out (by decide) hg.symm)
      have hmw := HM.out.trans hmo (fun i hi e => by have := HLB.out.2; omega)
      exact bodyPost_ret (v := .tuple #[.agg #[.int .i64 K, .int .i64 E, .int .i64 B, .int .i64 N, .slice F fl nf, .int .i64 go, .int .i64 kk, .slice X m x], .bool true]) (by simp [results, Tryz.results36, go_sem, R0, R1, R2, R3, R4, R5, R6, R7]) rfl ⟨X, m, x, by rw [HKK.out], by have := HM'.out; simpa using this, hbt, hmw, HN.out⟩
end Go.Proofs.YtmigninibdecmaaGreat
namespace Go.Proofs.YtmigninibdecmaaGreat
open Go.RowKit
attribute [local go_sem] less_eq same_eq le_eq ge_eq gt_eq

theorem below_of_none {w w' : World} (h : Mv (fun i => Value.ownBlock (.slice none 0 0) = some i) w w') : Below w.heap.size w w' := h.below (Nat.le_refl _) (fun i e => by simp [Value.ownBlock] at e)
set_option maxHeartbeats 8000000 in
set_option maxRecDepth 100000 in
theorem hbegin_any (K E B N : Int) (l : List BtV) (A : Option Addr) (c : Nat) (G : Nat → Prop) (w : World) (hv : RdBts w w.heap.size G (.slice A l.length c) l) (hc : chainB B (l.map (·.t))) (hl : l.length ≤ 24) :
    Calls Tryz.prog 27 #[rcv K E B N (.slice A l.length c)] w fun e w' => ∃ A' n' c', e = .returned (.tuple #[lgv K E B N (.slice A l.length c) B (knownB 0 (l.map (·.t))) (.slice A' n' c'), .bool true]) ∧ n' = l.length ∧ OwnBt w' w.heap.size (.slice A' n' c') l ∧ Below w.heap.size w w' := by
  obtain ⟨w2, hw2⟩ : ∃ w2, w2 = (w.alloc (.cells #[.int .i64 K, .int .i64 E, .int .i64 B, .int .i64 N, .slice A l.length c] 65)).alloc (.cells #[.int .i64 0, .int .i64 0, .int .i64 0, .int .i64 0, .slice none 0 0, .int .i64 0, .int .i64 0, .slice none 0 0] 73) := ⟨_, rfl⟩
  have hb2 : Below w.heap.size w w2 := by rw [hw2]; exact ((Below.refl _ w).alloc (Nat.le_refl _) _).alloc (by simp) _
  have hR2 : Whole w2 (w.heap.size + 1) 73 [.int .i64 0, .int .i64 0, .int .i64 0, .int .i64 0, .slice none 0 0, .int .i64 0, .int .i64 0, .slice none 0 0] := by
    have := Whole.fresh (w.alloc (.cells #[.int .i64 K, .int .i64 E, .int .i64 B, .int .i64 N, .slice A l.length c] 65)) 73 [.int .i64 0, .int .i64 0, .int .i64 0, .int .i64 0, .slice none 0 0, .int .i64 0, .int .i64 0, .slice none 0 0]
    rw [hw2]; simpa using this
  obtain ⟨rb, hrb⟩ : ∃ rb, rb = w.heap.size + 1 := ⟨_, rfl⟩
  rw [← hrb] at hR2
  have hwi := hwith_any K E B N A l.length c B 0 [] none 0 l (.slice A l.length c) w2.heap.size w2 (Own.nil _ _) (Nat.le_refl _) ((hv.next hb2 (fun _ _ k => k)).mono (Nat.le_refl _) (fun i _ e => by simp [Value.ownBlock] at e)) hc (by simpa using hl)
  unfold lgv at hwi
  have HWI := Lib.hid hwi
  have HR2 := Lib.hid hR2
  have HB2 := Lib.hid hb2
  have HRB := Lib.hid hrb
  have HKK := Lib.hid (rfl : knownB 0 (l.map (·.t)) = knownB 0 (l.map (·.t)))
  unfold rcv lgv
  clear hv hc hb2 hR2 hwi HKK
  go_enter Tryz.func27, Tryz.ntmps27
  go_wp2_with fail
  rw [← hw2, ← hrb]
  clear hw2 hrb
  refine HWI.out.mono ?_
  rintro e w3 ⟨A3, n3, c3, rfl, hn3, ho3, hm3, -⟩
  have hb3 := below_of_none hm3
  have hR3 := HR2.out.below hb3 HR2.out.size
  have HB3 := Lib.hid (HB2.out.trans (hb3.mono HB2.out.size))
  have HO3 := Lib.hid (show OwnBt w3 w.heap.size (.slice A3 n3 c3) l from Own.lower (by simpa using ho3) HB2.out.size)
  have HN3 := Lib.hid (show n3 = l.length from by simpa using hn3)
  have HR3 := Lib.hid hR3
  have z0 := hR3.cell 0 _ rfl
  have z1 := hR3.cell 1 _ rfl
  have z2 := hR3.cell 2 _ rfl
  have z3 := hR3.cell 3 _ rfl
  have z4 := hR3.cell 4 _ rfl
  have z5 := hR3.cell 5 _ rfl
  have z6 := hR3.cell 6 _ rfl
  have z7 := hR3.cell 7 _ rfl
  have f0 := hR3.frozen 0
  have f1 := hR3.frozen 1
  have f2 := hR3.frozen 2
  have f3 := hR3.frozen 3
  have f4 := hR3.frozen 4
  have f5 := hR3.frozen 5
  have f6 := hR3.frozen 6
  have f7 := hR3.frozen 7
  have hrs := hR3.size
  obtain ⟨kk, hkk⟩ : ∃ kk, kk = knownB 0 (l.map (·.t)) := ⟨_, rfl⟩
  rw [← hkk]
  have HKK := Lib.hid hkk
  clear ho3 hn3 hm3 hb3 hR3 HWI HR2 HB2 hkk
  go_wp2_with fail
  have hZ := ((((((((HR3.out.put 0 (.int .i64 K)).put 1 (.int .i64 E)).put 2 (.int .i64 B)).put 3 (.int .i64 N)).put 4 (.slice A l.length c)).put 5 (.int .i64 B)).put 6 (.int .i64 kk)).put 7 (.slice A3 n3 c3))
  simp only [List.set] at hZ
  have R0 := hZ.cell 0 _ rfl
  have R1 := hZ.cell 1 _ rfl
  have R2 := hZ.cell 2 _ rfl
  have R3 := hZ.cell 3 _ rfl
  have R4 := hZ.cell 4 _ rfl
  have R5 := hZ.cell 5 _ rfl
  have R6 := hZ.cell 6 _ rfl
  have R7 := hZ.cell 7 _ rfl
  have hmo := (((((((((Mv.refl (fun i => i = rb) w3).one 0 (.int .i64 K)).one 1 (.int .i64 E)).one 2 (.int .i64 B)).one 3 (.int .i64 N)).one 4 (.slice A l.length c)).one 5 (.int .i64 B)).one 6 (.int .i64 kk)).one 7 (.slice A3 n3 c3))
  have hbt := OwnBt.mv HO3.out hmo (fun g hg e => by subst e; exact Own.apart HO3.out HR3.out (by decide) hg.symm)
  exact bodyPost_ret (v := .tuple #[.agg #[.int .i64 K, .int .i64 E, .int .i64 B, .int .i64 N, .slice A l.length c, .int .i64 B, .int .i64 kk, .slice A3 n3 c3], .bool true]) (by simp [results, Tryz.results27, go_sem, R0, R1, R2, R3, R4, R5, R6, R7]) rfl ⟨A3, n3, c3, by rw [HKK.out], HN3.out, hbt, HB3.out.trans (hmo.below HB3.out.size (fun i e => by have := HRB.out; omega))⟩

set_option maxHeartbeats 8000000 in
set_option maxRecDepth 100000 in
theorem hsince_any (K E B N : Int) (F : Option Addr) (fl nf : Nat) (go kn : Int) (h : List BtV) (H : Option Addr) (nh : Nat) (V : Int) (G : Nat → Prop) (w : World) (hv : RdBts w w.heap.size G (.slice H h.length nh) h) (hgo : go < V) (hc : chainB V ((h.drop (upto V h)).map (·.t))) (hl : h.length ≤ 24) :
    Calls Tryz.prog 39 #[lgv K E B N (.slice F fl nf) go kn (.slice H h.length nh), .int .i64 V, .int .i64 kn] w fun e w' => ∃ A' n' c', e = .returned (.tuple #[lgv K E B N (.slice F fl nf) V (knownB kn ((h.drop (upto V h)).map (·.t))) (.slice A' n' c'), .bool true]) ∧ n' = (h.drop (upto V h)).length ∧ OwnBt w' w.heap.size (.slice A' n' c') (h.drop (upto V h)) ∧ Below w.heap.size w w' := by
  obtain ⟨w2, hw2⟩ : ∃ w2, w2 = (w.alloc (.cells #[.int .i64 K, .int .i64 E, .int .i64 B, .int .i64 N, .slice F fl nf, .int .i64 go, .int .i64 kn, .slice H h.length nh] 73)).alloc (.cells #[.int .i64 0, .int .i64 0, .int .i64 0, .int .i64 0, .slice none 0 0, .int .i64 0, .int .i64 0, .slice none 0 0] 73) := ⟨_, rfl⟩
  have hb2 : Below w.heap.size w w2 := by rw [hw2]; exact ((Below.refl _ w).alloc (Nat.le_refl _) _).alloc (by simp) _
  have hL2 : Whole w2 w.heap.size 73 [.int .i64 K, .int .i64 E, .int .i64 B, .int .i64 N, .slice F fl nf, .int .i64 go, .int .i64 kn, .slice H h.length nh] := by rw [hw2]; exact (Whole.fresh w _ [.int .i64 K, .int .i64 E, .int .i64 B, .int .i64 N, .slice F fl nf, .int .i64 go, .int .i64 kn, .slice H h.length nh]).alloc _
  have hR2 : Whole w2 (w.heap.size + 1) 73 [.int .i64 0, .int .i64 0, .int .i64 0, .int .i64 0, .slice none 0 0, .int .i64 0, .int .i64 0, .slice none 0 0] := by
    have := Whole.fresh (w.alloc (.cells #[.int .i64 K, .int .i64 E, .int .i64 B, .int .i64 N, .slice F fl nf, .int .i64 go, .int .i64 kn, .slice H h.length nh] 73)) 73 [.int .i64 0, .int .i64 0, .int .i64 0, .int .i64 0, .slice none 0 0, .int .i64 0, .int .i64 0, .slice none 0 0]
    rw [hw2]; simpa using this
  obtain ⟨lb, hlb⟩ : ∃ lb, lb = w.heap.size := ⟨_, rfl⟩
  obtain ⟨rb, hrb⟩ : ∃ rb, rb = w.heap.size + 1 := ⟨_, rfl⟩
  rw [← hlb] at hL2
  rw [← hrb] at hR2
  have hlr : lb ≠ rb := by omega
  have hlr2 : rb ≠ lb := by omega
  have g1 : ¬ V ≤ go := by omega
  have g2 : ¬ kn < kn := by omega
  obtain ⟨wd, hwd⟩ : ∃ wd, wd = w2.drew := ⟨_, rfl⟩
  have hbd : Below w2.heap.size w2 wd := by rw [hwd]; exact (Below.refl _ w2).drew
  have hLd := hL2.below hbd hL2.size
  have hRd := hR2.below hbd hR2.size
  have hbwd := hb2.trans (hbd.mono hb2.size)
  have HV := Lib.hid (hv.next hbwd (fun _ _ k => k))
  have HLD := Lib.hid hLd
  have HRD := Lib.hid hRd
  have HBD := Lib.hid hbwd
  have HC := Lib.hid hc
  have HLEN := Lib.hid hl
  have HRB := Lib.hid (And.intro hlb hrb)
  have HH0 : Below w.heap.size w (w.alloc (.cells #[.int .i64 K, .int .i64 E, .int .i64 B, .int .i64 N, .slice F fl nf, .int .i64 go, .int .i64 kn, .slice H h.length nh] 73)) := (Below.refl _ w).alloc (Nat.le_refl _) _
  have u0 := hL2.cell 0 _ rfl
  have u1 := hL2.cell 1 _ rfl
  have u2 := hL2.cell 2 _ rfl
  have u3 := hL2.cell 3 _ rfl
  have u4 := hL2.cell 4 _ rfl
  have u5 := hL2.cell 5 _ rfl
  have u6 := hL2.cell 6 _ rfl
  have u7 := hL2.cell 7 _ rfl
  rw [hw2, hlb] at u0 u1 u2 u3 u4 u5 u6 u7
  unfold lgv
  clear hv hc hl hb2 hL2 hR2 hbd hLd hRd hbwd HH0
  go_enter Tryz.func39, Tryz.ntmps39
  go_wp2_with fail
  rw [← hw2, ← hrb, ← hlb]
  clear hw2 hrb hlb u0 u1 u2 u3 u4 u5 u6 u7
  refine wp_region_planT (fun W => W.cell? ⟨lb, 0, none⟩ = some (.int .i64 K) ∧ W.cell? ⟨lb, 1, none⟩ = some (.int .i64 E) ∧ W.cell? ⟨lb, 2, none⟩ = some (.int .i64 B) ∧ W.cell? ⟨lb, 3, none⟩ = some (.int .i64 N) ∧ W.cell? ⟨lb, 4, none⟩ = some (.slice F fl nf) ∧ W.cell? ⟨lb, 5, none⟩ = some (.int .i64 go) ∧ W.cell? ⟨lb, 6, none⟩ = some (.int .i64 kn) ∧ W.cell? ⟨lb, 7, none⟩ = some (.slice H h.length nh)) (.take 0 (.take 1 (.take 2 (.take 3 (.take 4 (.take 5 (.take 6 (.step 7 (.step 8 (.take 9 (.take 10 (.step 11 (.take 12 .done))))))))))))) (by kernel_rfl) (by kernel_rfl) (fun _ _ d _ _ h => by cases d <;> exact h) (by rw [← hwd]; exact ⟨HLD.out.cell 0 _ rfl, HLD.out.cell 1 _ rfl, HLD.out.cell 2 _ rfl, HLD.out.cell 3 _ rfl, HLD.out.cell 4 _ rfl, HLD.out.cell 5 _ rfl, HLD.out.cell 6 _ rfl, HLD.out.cell 7 _ rfl⟩) ?_
  rw [← hwd]
  clear hwd
  (refine PlanT.takeI (v := ?_) rfl rfl ?_ ?_; rotate_left; (focus (intro W hW; obtain ⟨k0, k1, k2, k3, k4, k5, k6, k7⟩ := hW; go_simp; (try with_reducible rfl); done)); (try simp only [Act.put, List.setIfInBounds_toArray, List.set_cons_zero, List.set_cons_succ]))
  (refine PlanT.takeI (v := ?_) rfl rfl ?_ ?_; rotate_left; (focus (intro W hW; obtain ⟨k0, k1, k2, k3, k4, k5, k6, k7⟩ := hW; go_simp; (try with_reducible rfl); done)); (try simp only [Act.put, List.setIfInBounds_toArray, List.set_cons_zero, List.set_cons_succ]))
  (refine PlanT.takeI (v := ?_) rfl rfl ?_ ?_; rotate_left; (focus (intro W hW; obtain ⟨k0, k1, k2, k3, k4, k5, k6, k7⟩ := hW; go_simp; (try with_reducible rfl); done)); (try simp only [Act.put, List.setIfInBounds_toArray, List.set_cons_zero, List.set_cons_succ]))
  (refine PlanT.takeI (v := ?_) rfl rfl ?_ ?_; rotate_left; (focus (intro W hW; obtain ⟨k0, k1, k2, k3, k4, k5, k6, k7⟩ := hW; go_simp; (try with_reducible rfl); done)); (try simp only [Act.put, List.setIfInBounds_toArray, List.set_cons_zero, List.set_cons_succ]))
  (refine PlanT.takeI (v := ?_) rfl rfl ?_ ?_; rotate_left; (focus (intro W hW; obtain ⟨k0, k1, k2, k3, k4, k5, k6, k7⟩ := hW; go_simp; (try with_reducible rfl); done)); (try simp only [Act.put, List.setIfInBounds_toArray, List.set_cons_zero, List.set_cons_succ]))
  (refine PlanT.takeI (v := ?_) rfl rfl ?_ ?_; rotate_left; (focus (intro W hW; obtain ⟨k0, k1, k2, k3, k4, k5, k6, k7⟩ := hW; go_simp; (try with_reducible rfl); done)); (try simp only [Act.put, List.setIfInBounds_toArray, List.set_cons_zero, List.set_cons_succ]))
  (refine PlanT.takeI (v := ?_) rfl rfl ?_ ?_; rotate_left; (focus (intro W hW; obtain ⟨k0, k1, k2, k3, k4, k5, k6, k7⟩ := hW; go_simp; (try with_reducible rfl); done)); (try simp only [Act.put, List.setIfInBounds_toArray, List.set_cons_zero, List.set_cons_succ]))
  refine wpOp_stepT rfl rfl (fun Kk hK => ?_)
  go_simp
  go_at_call 38
  have hbe := hbehind_any K E B N F fl nf go kn h H nh V G wd.heap.size wd HV.out (Nat.le_refl _) (by have := HLEN.out; omega)
  unfold lgv at hbe
  refine hbe.mono ?_
  rintro e w5 ⟨A5, c5, rfl, hr5', hb5⟩
  have hr5 := hr5'.mono hb5.size (fun _ _ k => k)
  clear hr5'
  have hL5 := HLD.out.below hb5 HLD.out.size
  refine hK.out _ _ ⟨hL5.cell 0 _ rfl, hL5.cell 1 _ rfl, hL5.cell 2 _ rfl, hL5.cell 3 _ rfl, hL5.cell 4 _ rfl, hL5.cell 5 _ rfl, hL5.cell 6 _ rfl, hL5.cell 7 _ rfl⟩ ?_
  have HL5 := Lib.hid hL5
  have HR5 := Lib.hid (HRD.out.below hb5 HRD.out.size)
  have HB5 := Lib.hid (HBD.out.trans (hb5.mono HBD.out.size))
  have HX5 := Lib.hid hr5
  have hdl : h.length - upto V h = (h.drop (upto V h)).length := by rw [List.length_drop]
  have hd24 : (h.drop (upto V h)).length ≤ 24 := by rw [List.length_drop]; have := HLEN.out; omega
  clear hK Kk hbe hb5 hL5 hr5
  (try simp only [Act.put, List.setIfInBounds_toArray, List.set_cons_zero, List.set_cons_succ])
  obtain ⟨Q, hQ⟩ : ∃ Q, Q = h.drop (upto V h) := ⟨_, rfl⟩
  rw [hdl] at HX5 ⊢
  rw [← hQ] at HX5 HC hd24 ⊢
  have HQ := Lib.hid hQ
  clear hdl hQ
  refine wpOp_stepT rfl rfl (fun Kk hK => ?_)
  go_simp
  go_at_call 36
  have hwi := hwith_any K E B N F fl nf V kn [] none 0 Q (.slice A5 Q.length c5) w5.heap.size w5 (Own.nil _ _) (Nat.le_refl _) (HX5.out.mono (Nat.le_refl _) (fun i _ e => by simp [Value.ownBlock] at e)) HC.out (by simpa using hd24)
  unfold lgv at hwi
  refine hwi.mono ?_
  rintro e w7 ⟨A7, n7, c7, rfl, hn7, ho7, hm7, -⟩
  have hb7 := below_of_none hm7
  have hL7 := HL5.out.below hb7 HL5.out.size
  refine hK.out _ _ ⟨hL7.cell 0 _ rfl, hL7.cell 1 _ rfl, hL7.cell 2 _ rfl, hL7.cell 3 _ rfl, hL7.cell 4 _ rfl, hL7.cell 5 _ rfl, hL7.cell 6 _ rfl, hL7.cell 7 _ rfl⟩ ?_
  have hR7 := HR5.out.below hb7 HR5.out.size
  have HL7 := Lib.hid hL7
  have HR7 := Lib.hid hR7
  have HB7 := Lib.hid (HB5.out.trans (hb7.mono HB5.out.size))
  have HO7 := Lib.hid (show OwnBt w7 w.heap.size (.slice A7 n7 c7) Q from Own.lower (by simpa using ho7) HB5.out.size)
  have HN7 := Lib.hid (show n7 = Q.length from by simpa using hn7)
  have z0 := hR7.cell 0 _ rfl
  have z1 := hR7.cell 1 _ rfl
  have z2 := hR7.cell 2 _ rfl
  have z3 := hR7.cell 3 _ rfl
  have z4 := hR7.cell 4 _ rfl
  have z5 := hR7.cell 5 _ rfl
  have z6 := hR7.cell 6 _ rfl
  have z7 := hR7.cell 7 _ rfl
  have f0 := hR7.frozen 0
  have f1 := hR7.frozen 1
  have f2 := hR7.frozen 2
  have f3 := hR7.frozen 3
  have f4 := hR7.frozen 4
  have f5 := hR7.frozen 5
  have f6 := hR7.frozen 6
  have f7 := hR7.frozen 7
  have hrs := hR7.size
  clear hK Kk hwi hm7 hb7 hL7 hR7 ho7 hn7 HX5
  (try simp only [Act.put, List.setIfInBounds_toArray, List.set_cons_zero, List.set_cons_succ])
  obtain ⟨kk, hkk⟩ : ∃ kk, kk = knownB kn (Q.map (·.t)) := ⟨_, rfl⟩
  rw [← hkk]
  have HKK := Lib.hid hkk
  clear hkk
  (refine PlanT.takeI (v := ?_) rfl rfl ?_ ?_; rotate_left; (focus (intro W hW; obtain ⟨k0, k1, k2, k3, k4, k5, k6, k7⟩ := hW; go_simp; (try with_reducible rfl); done)); (try simp only [Act.put, List.setIfInBounds_toArray, List.set_cons_zero, List.set_cons_succ]))
  (refine PlanT.takeI (v := ?_) rfl rfl ?_ ?_; rotate_left; (focus (intro W hW; obtain ⟨k0, k1, k2, k3, k4, k5, k6, k7⟩ := hW; go_simp; (try with_reducible rfl); done)); (try simp only [Act.put, List.setIfInBounds_toArray, List.set_cons_zero, List.set_cons_succ]))
  have hZ := ((((((((HR7.out.put 0 (.int .i64 K)).put 1 (.int .i64 E)).put 2 (.int .i64 B)).put 3 (.int .i64 N)).put 4 (.slice F fl nf)).put 5 (.int .i64 V)).put 6 (.int .i64 kk)).put 7 (.slice A7 n7 c7))
  simp only [List.set] at hZ
  have hmo := (((((((((Mv.refl (fun i => i = rb) w7).one 0 (.int .i64 K)).one 1 (.int .i64 E)).one 2 (.int .i64 B)).one 3 (.int .i64 N)).one 4 (.slice F fl nf)).one 5 (.int .i64 V)).one 6 (.int .i64 kk)).one 7 (.slice A7 n7 c7))
  have hLZ := hmo.whole HL7.out hlr
  have HZ := Lib.hid hZ
  have HMO := Lib.hid hmo
  have HLZ := Lib.hid hLZ
  clear hZ hmo hLZ
  refine wpOp_stepT rfl rfl (fun Kk hK => ?_)
  go_simp
  refine hK.out _ _ ⟨HLZ.out.cell 0 _ rfl, HLZ.out.cell 1 _ rfl, HLZ.out.cell 2 _ rfl, HLZ.out.cell 3 _ rfl, HLZ.out.cell 4 _ rfl, HLZ.out.cell 5 _ rfl, HLZ.out.cell 6 _ rfl, HLZ.out.cell 7 _ rfl⟩ ?_
  clear hK Kk
  (try simp only [Act.put, List.setIfInBounds_toArray, List.set_cons_zero, List.set_cons_succ])
  (refine PlanT.takeI (v := ?_) rfl rfl ?_ ?_; rotate_left; (focus (intro W hW; obtain ⟨k0, k1, k2, k3, k4, k5, k6, k7⟩ := hW; go_simp; (try with_reducible rfl); done)); (try simp only [Act.put, List.setIfInBounds_toArray, List.set_cons_zero, List.set_cons_succ]))
  simp only [PlanT]
  go_wp2_with fail
  have R0 := HZ.out.cell 0 _ rfl
  have R1 := HZ.out.cell 1 _ rfl
  have R2 := HZ.out.cell 2 _ rfl
  have R3 := HZ.out.cell 3 _ rfl
  have R4 := HZ.out.cell 4 _ rfl
  have R5 := HZ.out.cell 5 _ rfl
  have R6 := HZ.out.cell 6 _ rfl
  have R7 := HZ.out.cell 7 _ rfl
  have hbt := OwnBt.mv HO7.out HMO.out (fun g hg e => by subst e; exact Own.apart HO7.out HR7.out (by decide) hg.symm)
  exact bodyPost_ret (v := .tuple #[.agg #[.int .i64 K, .int .i64 E, .int .i64 B, .int .i64 N, .slice F fl nf, .int .i64 V, .int .i64 kk, .slice A7 n7 c7], .bool true]) (by simp [results, Tryz.results39, go_sem, R0, R1, R2, R3, R4, R5, R6, R7]) rfl ⟨A7, n7, c7, by rw [HKK.out, HQ.out], by rw [HN7.out, HQ.out], by rw [← HQ.out]; exact hbt, HB7.out.trans (HMO.out.below HB7.out.size (fun i e => by have := HRB.out; omega))⟩
end Go.Proofs.YtmigninibdecmaaGreat
namespace Go.Proofs.YtmigninibdecmaaGreat
open Go.RowKit Go.Maps Go.Sort Go.Shelf
attribute [local go_sem] less_eq same_eq le_eq ge_eq gt_eq

def RAny (_ : Value) : Option (DataW Nat × List MemPlace) := some (.nil, [])
def DOne (k : Int) : DataW Nat := .map [(.int .i64 k, .nil)]
set_option maxRecDepth 100000 in
theorem map_owns {w : World} {b : Nat} {k : Int} {v : Value} (h : MapI w b [(k, v)]) (hk : -9223372036854775808 ≤ k ∧ k < 9223372036854775808) : w.ownsMap Tryz.prog 3 RAny b 1 (DOne k) := by
  obtain ⟨es, clock, hb, hs, hl⟩ := h
  have hl' : es.toList.map kvE = [(.int .i64 k, v)] := List.perm_singleton.1 hl
  obtain ⟨e, he⟩ : ∃ e, es.toList = [e] := by
    have := congrArg List.length hl'
    rw [List.length_map] at this
    exact List.length_eq_one_iff.1 this
  rw [he] at hl'
  have hke : e.key = .int .i64 k := by
    have := congrArg (fun l => l.map Prod.fst) hl'
    simpa [kvE] using this
  have hkey : keyOf Tryz.prog 3 e.key = some (.int .i64 k) := by
    rw [hke]
    simp [keyOf, mapKey, Tryz.underlying3, Lit.wf, IntKind.min, IntKind.max, IntKind.signed, IntKind.bits]
    omega
  have hrd : Go.WideElems.rd Tryz.prog 3 RAny e = some (.int .i64 k, .nil) := by
    unfold Go.WideElems.rd
    rw [hkey]
    rfl
  have hsz : es.size = 1 := by rw [← Array.length_toList, he]; rfl
  refine ⟨es, clock, hb, ⟨by rw [hsz]; decide, hs, fun x hx => ?_⟩, by rw [hsz]; exact Nat.le_refl _, ?_⟩
  · rw [he] at hx
    rw [List.mem_singleton.1 hx]
    exact ⟨_, hrd⟩
  · rw [he]
    show DOne k = .map [Go.WideElems.rg Tryz.prog 3 RAny e]
    rw [Go.WideElems.rg_of hrd]
    rfl

theorem Tryz.sortsM (m : Nat) : AnyZI.SortsIn Tryz.prog Tryz.sortedM_ren Fence.wide m :=
  ⟨fun blk off cap ss W hH hblk hsz => callsIn_wide.2 (AnyM.slices_Sort_int Tryz.sortM blk off cap ss W hH hblk hsz),
   fun p cap W => callsIn_wide.2 (AnyM.slices_Sort_int_none Tryz.sortM p cap W)⟩
theorem keys_any (mb : Option Nat) (W : World) : Calls Tryz.prog 46 #[.map mb] W fun e w' => e = .returned (.func (.func 73) #[] #[.pointer (some ⟨W.heap.size, 0, none⟩)]) ∧ w' = W.alloc (.cells #[.map mb] 59) :=
  (callsIn_wide (n := 5)).1 (AnyZI.keys_in Tryz.keysM Fence.wide 5 trivial rfl mb W)
set_option maxHeartbeats 1000000 in
set_option maxRecDepth 100000 in
theorem sorted_any (b : Nat) (k : Int) (v : Value) (w : World) (h : MapI w b [(k, v)]) (hk : -9223372036854775808 ≤ k ∧ k < 9223372036854775808) :
    Calls Tryz.prog 45 #[.func (.func 73) #[] #[.pointer (some ⟨w.heap.size, 0, none⟩)]] (w.alloc (.cells #[.map (some b)] 59)) fun e w' => ∃ A c, e = .returned (.slice A 1 c) ∧ OwnI w' w.heap.size (.slice A 1 c) [k] ∧ Below w.heap.size w w' := by
  have hown := map_owns h hk
  have hbl := hown.lt
  have hseq : SeqGives Fence.wide 2 Tryz.prog 73 #[.pointer (some ⟨w.heap.size, 0, none⟩)] encZ (fun ss => ss.Perm (intKeys (DOne k))) (Maps.size (DOne k)) (w.alloc (.cells #[.map (some b)] 59)) :=
    AnyZI.keys_gives (ρ := Tryz.keysM_ren) { Tryz.keysM with } Fence.wide _ trivial rfl (by omega) w.heap.size b 1 (DOne k) _ (by simp) (by simp) (by
      obtain ⟨es, clock, hb, Ft, hs, hD⟩ := hown
      exact ⟨es, clock, (Below.heap_alloc _ _ b hbl).trans hb, Ft, hs, hD⟩)
  have cS := AnyZI.sorted_in Tryz.sortedM Fence.wide 5 trivial trivial trivial trivial rfl (by omega) (Tryz.sortsM _) (enters_of Tryz.func72 (by kernel_rfl) rfl) 73 #[.pointer (some ⟨w.heap.size, 0, none⟩)] trivial (enters_of Tryz.func73 (by kernel_rfl) rfl) _ _ (by show 1 ≤ maxLen; decide) (by show 1 * 8 ≤ 140737488355328; decide) _ hseq
  change CallsIn _ _ Tryz.prog 45 _ _ _ at cS
  refine ((callsIn_wide (n := 5)).1 cS).mono ?_
  rintro e w' ⟨v', ss, rfl, hS, hrow, -, hb⟩
  have hss : ss = [k] := List.perm_singleton.1 (show ss.Perm [k] from hS)
  subst hss
  have hrow' : OwnI w' w.heap.size v' [k] := by
    have := ownsRow_base_a (base' := w.heap.size) hrow (by simp)
    rw [List.mergeSort_singleton] at this
    exact this
  rcases hrow'.form with ⟨_, h2⟩ | ⟨g, cap, rfl, -, -, -⟩
  · cases h2
  · exact ⟨_, _, rfl, hrow', ((Below.refl _ w).alloc (Nat.le_refl _) _).trans (hb.mono (by simp))⟩

set_option maxHeartbeats 2000000 in
set_option maxRecDepth 100000 in
theorem hepo1_any (q mb : Nat) (ep : Int) (v : Value) (w : World) (a2 : w.cell? ⟨q, 2, none⟩ = some (.map (some mb))) (hm : MapI w mb [(ep, v)]) (he : -9223372036854775808 ≤ ep ∧ ep < 9223372036854775808) :
    Calls Tryz.prog 19 #[.pointer (some ⟨q, 0, none⟩)] w fun e w' => ∃ A c, e = .returned (.slice A 1 c) ∧ OwnI w' w.heap.size (.slice A 1 c) [ep] ∧ Below w.heap.size w w' := by
  have HS := Lib.hid (sorted_any mb ep v w hm he)
  have HK := Lib.hid (keys_any (some mb) w)
  clear hm he
  go_enter Tryz.func19, Tryz.ntmps19
  go_wp2_with fail
  refine HK.out.mono ?_
  rintro e w1 ⟨rfl, rfl⟩
  go_wp2_with fail
  refine HS.out.mono ?_
  rintro e w2 ⟨A, c, rfl, ho, hb⟩
  have HO := Lib.hid ho
  have HB := Lib.hid hb
  clear ho hb
  go_wp2_with fail
  go_ret
  exact ⟨A, c, rfl, HO.out, HB.out⟩
theorem hepochs_any (base q : Nat) (G : Nat → Prop) (h : Ch) (w : World) (hh : ChAt w base q G h) (h1 : ∃ g, h.logs = [g]) :
    Calls Tryz.prog 19 #[.pointer (some ⟨q, 0, none⟩)] w fun x w' => ∃ A c, x = .returned (.slice A h.logs.length c) ∧ Below w.heap.size w w' := by
  obtain ⟨qb, p, mb, Gb, Gf, b, L, k⟩ := hh
  obtain ⟨g, h1⟩ := h1
  obtain ⟨x, rfl, rfl⟩ := k.one h1
  rw [h1]
  have he := (k.log x (by simp)).ok.ep
  refine (hepo1_any q mb x.g.epoch x.v w (k.at_.cell 2 _ rfl) k.map (by omega)).mono ?_
  rintro e w' ⟨A, c, rfl, -, hb⟩
  exact ⟨A, c, rfl, hb⟩
set_option maxHeartbeats 2000000 in
set_option maxRecDepth 100000 in
theorem hnone_epochs (w : World) : Calls Tryz.prog 19 #[.pointer none] w fun x w' => ∃ A c, x = .returned (.slice A 0 c) ∧ Below w.heap.size w w' := by
  go_enter Tryz.func19, Tryz.ntmps19
  go_wp2_with fail
  go_ret
  exact ⟨none, 0, rfl, Below.refl _ _⟩
end Go.Proofs.YtmigninibdecmaaGreat
