/- What the reference's Spread answers. -/
import Derived.Test.YteelnholmlabmaaRw
namespace Go.Proofs.Yteelnholmlabmaa
open Go.RowKit

set_option maxHeartbeats 4000000 in
set_option maxRecDepth 100000 in
theorem rspread_any (b : List K) (l : List Chg) (hs : ∀ c ∈ l, smallC c) (vb vl : Value) (w : World) (hb : RdK w w.heap.size vb b) (hv : RdC w w.heap.size vl l) (hbl : b.length ≤ 140737488351232) (hl : l.length ≤ 5629499532000) :
    Calls Try.prog 17 #[vb, vl] w fun e w' => ∃ v' q, e = .returned (.tuple #[v', .int .i64 q]) ∧ SpreadIs w' v' q b l ∧ Below w.heap.size w w' := by
  have HS := Lib.hid (rsoundB_any b vb w hb)
  have HALL := Lib.hid (fun W (h : RdC W W.heap.size vl l) => rall_any l hs vl W h (by omega))
  have HCUT := Lib.hid (fun s W (h : RdC W W.heap.size vl l) => rcut_any s l hs vl W h hl)
  have HPC := Lib.hid (fun n (hn : n ≤ b.length) W (h : RdK W W.heap.size vb b) => rpieceB_any b n vb W h hn hbl)
  have HVB := Lib.hid hb
  have HVL := Lib.hid hv
  obtain ⟨Ab, cb, rfl, _⟩ := hb.at
  clear hb hv hs
  by_cases hok : okB b
  case neg =>
    have hd : decide (okB b) = false := decide_eq_false hok
    rw [hd] at HS
    have HOK := Lib.hid hok; clear hok hd
    go_enter Try.func17, Try.ntmps17
    go_wp2_with fail
    refine HS.out.mono ?_
    rintro e w1 ⟨rfl, hb1⟩
    have HB1 := Lib.hid hb1; clear hb1
    go_wp2_with fail
    exact bodyPost_ret (v := .tuple #[.slice none 0 0, .int .i64 2]) (by simp [results, Try.results17, go_sem]) rfl ⟨_, _, rfl, .inl ⟨HOK.out, rfl, none, 0, rfl⟩, HB1.out⟩
  have hd : decide (okB b) = true := decide_eq_true hok
  rw [hd] at HS
  have hb7 := hok.1
  have HOK := Lib.hid hok; clear hok hd
  obtain ⟨q, hq⟩ : ∃ q, q = allAns l := ⟨_, rfl⟩
  rw [← hq] at HALL
  by_cases hq0 : q = 0
  case neg =>
    have HQ := Lib.hid hq; clear hq
    have hqb : (q == 0) = false := by simpa using hq0
    go_enter Try.func17, Try.ntmps17
    go_wp2_with fail
    refine HS.out.mono ?_
    rintro e w1 ⟨rfl, hb1⟩
    have HA := Lib.hid (HALL.out w1 (HVL.out.next hb1))
    have HB1 := Lib.hid hb1; clear hb1
    go_wp2_with fail
    refine HA.out.mono ?_
    rintro e w2 ⟨rfl, hb2⟩
    have HB2 := Lib.hid (HB1.out.trans (hb2.mono HB1.out.size)); clear hb2
    go_wp2_with fail
    exact bodyPost_ret (v := .tuple #[.slice none 0 0, .int .i64 q]) (by simp [results, Try.results17, go_sem]) rfl ⟨_, _, rfl, .inr (.inl ⟨HOK.out, by rw [← HQ.out]; exact hq0, HQ.out, none, 0, rfl⟩), HB2.out⟩
  subst hq0
  have HQ := Lib.hid hq; clear hq
  obtain ⟨g, hg⟩ : ∃ g, g = w.heap.size := ⟨_, rfl⟩
  have HG := Lib.hid hg
  have hgw : g ≤ w.heap.size := by omega
  clear hg
  go_enter Try.func17, Try.ntmps17
  go_wp2_with fail
  refine HS.out.mono ?_
  rintro e w1 ⟨rfl, hb1⟩
  have HA := Lib.hid (HALL.out w1 (HVL.out.next hb1))
  have HB1 := Lib.hid hb1; clear hb1
  go_wp2_with fail
  refine HA.out.mono ?_
  rintro e w2 ⟨rfl, hb2⟩
  have hb2' : Below g w w2 := by rw [HG.out]; exact HB1.out.trans (hb2.mono HB1.out.size)
  have hg2 : g ≤ w2.heap.size := Nat.le_trans hgw hb2'.size
  have HO0 := Lib.hid (Own.empty (enc := encRw) (k := 1) (e := 36) w2 g hg2)
  have HB2 := Lib.hid (hb2'.alloc hg2 (.cells #[] 36)); clear hb2 hb2'
  go_wp2_with fail
  go_loopw [7, 8] (fun ov iv wr => ∃ (n : Nat) (A : Option Addr) (c : Nat) (rows : List Rw), n ≤ b.length + 1 ∧ iv = .int .i64 n ∧ ov = .slice A n c ∧ Hid (rows.length = n) ∧ Hid (OwnRw wr g (.slice A n c) rows) ∧ Hid (∀ r ∈ rows, RdG encC 3 wr wr.heap.size (fun i => Value.ownBlock (.slice A n c) = some i) r.v r.l) ∧ Hid (rows.map (·.l) = rowsOf b l n) ∧ Hid (Below g w wr)) (fun _ iv _ => b.length + 1 - (intOf iv).toNat)
  case atStart => exact ⟨0, _, _, [], Nat.zero_le _, rfl, rfl, Lib.hid rfl, HO0, Lib.hid (by simp), Lib.hid rfl, HB2⟩
  case round =>
    obtain ⟨n, A, c, rows, hn, rfl, rfl, HRL, HO, HR, HM, HB⟩ := hrel
    have hgr : g ≤ wr.heap.size := Nat.le_trans hgw HB.out.size
    by_cases hlt : n ≤ b.length
    · have hle : (n : Int) ≤ (b.length : Int) := by omega
      have hbK := fun W (h : Below wr.heap.size wr W) => (show RdK W W.heap.size _ b from (HVB.out.below (by have h2 := HB.out.trans (h.mono hgr); rw [HG.out] at h2; exact h2) (Nat.le_refl _)).mono (Nat.le_trans (HB.out.size) h.size))
      have hbL := fun W (h : Below wr.heap.size wr W) => (show RdC W W.heap.size vl l from (HVL.out.below (by have h2 := HB.out.trans (h.mono hgr); rw [HG.out] at h2; exact h2) (Nat.le_refl _)).mono (Nat.le_trans (HB.out.size) h.size))
      have HBL := Lib.hid hbL; clear hbL
      have HP := Lib.hid (HPC.out n hlt wr (hbK wr (Below.refl _ _)))
      clear hbK
      have hrs := rowsOf_succ b l n
      generalize pieceB b n = s at HP hrs
      have HRS := Lib.hid hrs; clear hrs
      obtain ⟨s1, s2⟩ := s
      simp only at HP
      go_wp2_with fail
      refine HP.out.mono ?_
      rintro e w3 ⟨rfl, hb3⟩
      have HC := Lib.hid (HCUT.out (s1, s2) w3 (HBL.out w3 hb3))
      unfold spv at HC
      have HB3 := Lib.hid hb3; clear hb3
      go_wp2_with fail
      refine HC.out.mono ?_
      rintro e w4 ⟨v4, rfl, ho4, hb4⟩
      obtain ⟨r, hrl, hrv⟩ := OwnC.form ho4
      obtain ⟨rA, rc, rl⟩ := r
      unfold Rw.v at hrv
      simp only at hrv hrl
      subst hrv
      obtain ⟨r, hr0⟩ : ∃ r : Rw, r = ⟨rA, rc, rl⟩ := ⟨_, rfl⟩
      have hrv : r.v = .slice rA rl.length rc := by rw [hr0]; rfl
      have hrr : r.l = cutP (s1, s2) l := by rw [hr0]; exact hrl
      rw [← hrv] at ho4
      have hs3 := HB3.out.size
      have hs4 := hb4.size
      have hb34 : Below wr.heap.size wr w4 := HB3.out.trans (hb4.mono hs3)
      have hg4 : g ≤ w4.heap.size := by omega
      have HO4 := Lib.hid (HO.out.below hb34 (Nat.le_refl _))
      have hr4 : RdG encC 3 w4 w4.heap.size (fun i => i < wr.heap.size) r.v r.l := by
        rw [hrr]
        exact RdG.own encC_len ho4 (fun i h1 _ _ h2 => by omega)
      have hrold : ∀ x ∈ rows, RdG encC 3 w4 wr.heap.size (fun i => Value.ownBlock (.slice A n c) = some i) x.v x.l := fun x hx => (HR.out x hx).mv (Mv.of_new hb34 (fun _ => False)) (Nat.le_refl _) (fun _ _ h => h.elim)
      have hbg4 : Below g w w4 := HB.out.trans (hb34.mono hgr)
      have HR4 := Lib.hid hr4; clear hr4
      have HRO := Lib.hid hrold; clear hrold
      have HBG4 := Lib.hid hbg4; clear hbg4
      have HRV := Lib.hid hrr; clear hrr hrl
      have HRE := Lib.hid hrv
      clear ho4 hb4 hb34 hr0 hrv
      have hrl2 := HRL.out
      go_wp2_with (at_builtin; go_must (refine wpList_addRw rfl _ _ rfl g (.slice A n c) rows rfl ?f1 (w4.heap.size + 1) _ [r] rfl ?f3 ?f4 ?f2 ?_))
      case f1 => exact HO4.out.alloc _
      case f2 => simp; omega
      case f3 => have := RdW.one w4 r; rw [HRE.out] at this; exact this
      case f4 => simp; omega
      intro A5 c5 w5 ho5 hg5 hn5
      have hlen5 : (rows ++ [r]).length = n + 1 := by simp [hrl2]
      (try rw [hlen5] at ho5)
      (try rw [hlen5] at hn5)
      (try rw [hlen5])
      have hoa := HO4.out.alloc (.cells #[.slice rA rl.length rc] 36)
      have hbg5 : Below g w w5 := hoa.grown (HBG4.out.alloc hg4 _) hg5.out (Nat.le_refl _) (by simp; omega)
      have hlow := fun k (hk : Value.ownBlock (.slice A n c) = some k) => (HO.out.low hk).2
      have hrall : ∀ x ∈ rows ++ [r], RdG encC 3 w5 w5.heap.size (fun i => Value.ownBlock (.slice A5 (n + 1) c5) = some i) x.v x.l := fun x hx => by
        have hmv : Mv (fun i => Value.ownBlock (.slice A n c) = some i) w4 w5 := ((Mv.refl (fun i => Value.ownBlock (.slice A n c) = some i) w4).alloc _).grown hg5.out (fun i _ h => h.symm)
        have hsz5 : w4.heap.size < w5.heap.size := by have := hg5.out.size; simp at this; omega
        have hnb : ∀ i, i < w4.heap.size → Value.ownBlock (.slice A5 (n + 1) c5) = some i → Value.ownBlock (.slice A n c) = some i := fun i hi h => by
          rcases hn5.out i h with h1 | h1
          · exact h1
          · simp at h1; omega
        rcases List.mem_append.1 hx with hx | hx
        · exact ((HRO.out x hx).mv hmv (by omega) (fun _ _ h => h)).mono (by omega) (fun i hi h => hnb i (by omega) h)
        · simp at hx; subst hx
          exact (HR4.out.mv hmv (Nat.le_refl _) (fun i _ h => hlow i h)).mono (by omega) (fun i hi h => hlow i (hnb i hi h))
      have HR5 := Lib.hid hrall; clear hrall
      have HM5 := Lib.hid (show (rows ++ [r]).map (·.l) = rowsOf b l (n + 1) by rw [HRS.out, List.map_append, HM.out]; simp [HRV.out])
      have HB5 := Lib.hid hbg5; clear hbg5 hoa hlow
      have HRL5 := Lib.hid hlen5; clear hlen5 hrl2
      generalize rows ++ [r] = rows5 at ho5 HR5 HM5 HRL5
      go_wp2_with fail
      go_roundw
      case rel => exact ⟨n + 1, A5, c5, rows5, by omega, by go_num, rfl, HRL5, ho5, HR5, HM5, HB5⟩
      case measure => simp [intOf]; omega
    · obtain rfl : n = b.length + 1 := by omega
      have hle : ¬ ((b.length : Int) + 1 ≤ (b.length : Int)) := by omega
      have hle2 : (((b.length + 1 : Nat) : Int) ≤ (b.length : Int)) = False := by simp; omega
      go_wp2_with fail
      refine bodyPost_ret (v := .tuple #[.slice A (b.length + 1) c, .int .i64 0]) (by simp [results, Try.results17, go_sem]) rfl ⟨_, _, rfl, .inr (.inr ⟨HOK.out, HQ.out.symm, rfl, rows, HO.out.rd encRw_len, HM.out, fun r hr => (HR.out r hr).rd⟩), by have h := HB.out; rwa [HG.out] at h⟩
end Go.Proofs.Yteelnholmlabmaa
