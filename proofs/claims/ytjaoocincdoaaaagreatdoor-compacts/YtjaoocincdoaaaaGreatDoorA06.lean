/- The document's reader: an object, the walk. The document's reader, whole; its numbers written. The document's numbers, written. -/
import Derived.Test.YtjaoocincdoaaaaGreatDoorA05
namespace Go.Proofs.YtjaoocincdoaaaaGreatDoor
open Go.RowKit J

set_option linter.unusedVariables false

theorem putP_length {K α : Type} [DecidableEq K] : ∀ (ks : List K) (vs : List α) (k : K) (x : α), (putP ks vs k x).length ≤ vs.length + 1
  | [], vs, k, x => by simp [putP]
  | k' :: ks, [], k, x => by simp [putP]
  | k' :: ks, v :: vs, k, x => by
    simp only [putP]
    split
    · simp
    · have := putP_length ks vs k x; simp; omega

theorem res_obj {n : Nat} {s : ByteArray} {k : Nat} {lg : Bool} {R : Except Nat ((List ByteArray × List (VT n)) × Nat × Bool)} (h : R = objF (pval n s) s (s.size + 1) true (skip s (k + 1)) lg [] []) : brk (n + 1) s k lg true = R.map fun r => (VT.obj r.1.1 r.1.2, r.2) := by
  rw [h]; rfl

set_option maxRecDepth 100000 in
set_option maxHeartbeats 8000000 in
theorem br_obj (n : Nat) (hval : ValSaid n) (b : Nat) (s : ByteArray) (k : Nat) (d : Int) (lg : Bool) (w : World) (hd : d + ((n + 1 : Nat) : Int) = 12) (hd0 : 0 ≤ d) (hb : w.heap[b]? = some (rblk s k d (-1) lg)) (hs : s.size ≤ 1000) (hk : k < s.size) :
    Calls Tryz.prog 80 #[.pointer (some ⟨b, 0, none⟩), .bool true] w fun e w' => ∃ p v k' bad' lg', e = .returned p ∧ But b w w' ∧ Hid (bad' < 0 → RefV (n + 1) w' (fun m => w.heap.size ≤ m) v p) ∧ PtrTo w' (fun m => w.heap.size ≤ m) p ∧ w'.heap[b]? = some (rblk s k' d bad' lg') ∧ -1 ≤ bad' ∧ Hid (bad' < 0 → k ≤ k' ∧ k' ≤ s.size) ∧ Hid (ResIs (brk (n + 1) s k lg true) v k' bad' lg') := by
  obtain ⟨g0, g1, g2, g3, g4, hf⟩ := rcells hb
  have hd12 : (d == 12) = false := beq_eq_false_iff_ne.2 (by omega)
  have hdb2 : d ≤ 11 := by omega
  have HB : Hid (w.heap[b]? = some (rblk s k d (-1) lg)) := hb
  have hbw := lt_of_heap hb
  obtain ⟨N, hN⟩ : ∃ N, N = w.heap.size := ⟨_, rfl⟩
  have HN : Hid (N = w.heap.size) := hN
  have hbN : b < N := by omega
  have HV : Hid (ValSaid n) := hval
  obtain ⟨R, hR⟩ : ∃ R, R = objF (pval n s) s (s.size + 1) true (skip s (k + 1)) lg [] [] := ⟨_, rfl⟩
  have HBR : Hid (brk (n + 1) s k lg true = R.map fun r => (VT.obj r.1.1 r.1.2, r.2)) := res_obj hR
  have HR : Hid (objF (pval n s) s (s.size + 1) true (skip s (k + 1)) lg [] [] = R) := hR.symm
  have HDN : Hid (d + 1 + (n : Int) = 12) := by show _ = _; omega
  clear hb g0 g3 g4 hval hR hd hN
  go_enter Tryz.func80, Tryz.ntmps80
  go_wp2_with (go_at_call 53; refine (blanks_good b s (k + 1) (d + 1) lg _ (by exact heap_old (rset_deep (rset_at HB.out (k + 1) (by omega)) _)) hs).mono ?_; rintro e w1 ⟨rfl, hbut1, hblk1⟩)
  have hbutA : But b w w1 := ((((But.refl b w).setCell _ _).setCell _ _).alloc _).trans hbut1
  have hsz1 : N + 1 ≤ w1.heap.size := by have := hbut1.size; simp [World.setCell] at this; have := HN.out; omega
  have hinv1 : ObjInv n N w1 [] [] := by
    refine ⟨nilSl, nilSl, 1, [], ?_, Row.nil _ _, Row.nil _ _, fun g hg => by simp [nilSl, Value.ownBlock] at hg, fun g hg => by simp [nilSl, Value.ownBlock] at hg, rfl, trivial⟩
    refine (hbut1.block N (by simp [World.setCell]; have := HN.out; omega) (by intro e; injection e; omega)).trans ?_
    exact heap_new (by simp [World.setCell]; exact HN.out.symm)
  have hj0 : k < skip s (k + 1) := skip_le s (k + 1)
  have hj1 : skip s (k + 1) ≤ s.size := skip_size s (k + 1) (by omega)
  clear hbut1 g1 g2 hf
  go_loopg [7] (s.size + 1) (fun g fv wr => But b w wr ∧ N + 1 ≤ wr.heap.size ∧ ((∃ fst j lgj ks vs, fv = .bool fst ∧ k < j ∧ j ≤ s.size ∧ (if fst then s.size + 1 else s.size) < j + g ∧ vs.length + g ≤ s.size + 1 ∧ objF (pval n s) s g fst j lgj ks vs = R ∧ wr.heap[b]? = some (rblk s j (d + 1) (-1) lgj) ∧ ObjInv n N wr ks vs) ∨
      (∃ fst k' p lg', fv = .bool fst ∧ R = .error p ∧ wr.heap[b]? = some (rblk s k' (d + 1) (p : Nat) lg') ∧ ∃ kind kk ss l ks wt, wr.heap[N]? = some (vblk kind kk ss l ks wt))))
  case atStart => exact ⟨hbutA, hsz1, Or.inl ⟨true, skip s (k + 1), lg, [], [], rfl, hj0, hj1, by rw [if_pos rfl]; omega, by simp, HR.out, hblk1, hinv1⟩⟩
  case round =>
    obtain ⟨hbut, hsz, hmode⟩ := hrel
    clear hbutA hsz1 hinv1 hblk1 hj0 hj1 HR
    rcases hmode with ⟨fst, j, lgj, ks, vs, rfl, hkj, hj, hjg, hvl, hL, hblk, hinv⟩ | ⟨fst, k', p, lg', rfl, hRe, hblk, hvb⟩
    · have hjg' : s.size < j + gk := by split at hjg <;> omega
      obtain ⟨f, rfl⟩ : ∃ f, gk = f + 1 := ⟨gk - 1, by omega⟩
      have HJG : Hid ((if fst then s.size + 1 else s.size) < j + (f + 1)) := hjg
      clear hjg
      have HL : Hid (objF (pval n s) s (f + 1) fst j lgj ks vs = R) := hL
      have HB2 : Hid (wr.heap[b]? = some (rblk s j (d + 1) (-1) lgj)) := hblk
      have HI : Hid (ObjInv n N wr ks vs) := hinv
      obtain ⟨g0, g1, g2, g3, g4, hf⟩ := rcells hblk
      obtain ⟨c, hc⟩ : ∃ c, c = gb s j := ⟨_, rfl⟩
      have hcb := gb_bd s j
      rw [← hc] at hcb
      have HC : Hid (c = gb s j) := hc
      clear hL hblk hinv hc g0 g1 g2 g4
      by_cases h125 : c = 125
      · subst h125
        have hj2 : j < s.size := lt_of_gb (by rw [← HC.out]; omega)
        have HF : Hid (R = .ok ((ks, vs), j + 1, lgj)) := HL.out.symm.trans (objF_end HC.out.symm)
        clear hf
        cases fst
        all_goals
          go_wp2_with (go_at_call 118; refine (take_yes b s j (d + 1) (-1) lgj 125 _ (by exact HB2.out) (by rw [cv_good, ← HC.out]) (by omega) (by omega)).mono ?_; rintro e w2 ⟨rfl, hbut2, hblk2⟩; obtain ⟨q0, q1, q2, q3, q4, qf⟩ := rcells hblk2; have HB3 : Hid (w2.heap[b]? = some (rblk s (j + 1) (d + 1) (-1) lgj)) := hblk2; clear hblk2 q0 q1 q3 q4)
          go_ret
          have hinv2 : ObjInv n N (w2.setCell ⟨b, 2, none⟩ (.int .i64 d)) ks vs := (HI.out.but hbut2 hbN).but ((But.refl b w2).setCell _ _) hbN
          refine ⟨.pointer (some ⟨N, 0, none⟩), VT.obj ks vs, j + 1, -1, lgj, ?_, (hbut.trans hbut2).setCell _ _, fun _ => ?_, ?_, rset_deep HB3.out d, by omega, fun _ => ⟨by omega, by omega⟩, ?_⟩
          · rw [HN.out]; rfl
          · rw [← HN.out]; exact hinv2.ref
          · rw [← HN.out]; exact hinv2.ptr
          · show ResIs _ _ _ _ _
            rw [HBR.out, HF.out]; exact ⟨rfl, rfl, rfl, rfl⟩
      · have HC125 : Hid (gb s j ≠ 125) := by show _ ≠ _; rw [← HC.out]; exact h125
        have HCV : Hid (cv s j (-1) ≠ 125) := by show _ ≠ _; rw [cv_good]; exact HC125.out
        clear h125
        cases fst
        · by_cases h44 : c = 44
          · subst h44
            have hj2 : j < s.size := lt_of_gb (by rw [← HC.out]; omega)
            go_wp2_with (first
              | (go_at_call 118; refine (take_no b s j (d + 1) (-1) lgj 125 _ (by exact HB2.out) HCV.out (by omega) (by omega)).mono ?_; rintro e w2 ⟨rfl, hbut2, hblk2⟩; obtain ⟨q0, q1, q2, q3, q4, qf⟩ := rcells hblk2; have HB3 : Hid (w2.heap[b]? = some (rblk s j (d + 1) (-1) lgj)) := hblk2; clear hblk2 q0 q2 q3 q4)
              | (go_at_call 79; refine (c_any b s j (d + 1) (-1) lgj _ (by exact HB3.out)).mono ?_; rintro e w3 ⟨rfl, nd, rfl⟩; rw [cv_good, ← HC.out]))
            refine (blanks_good b s (j + 1) (d + 1) lgj _ (by exact rset_at (w := w2.drewN _) HB3.out (j + 1) (by omega)) hs).mono ?_
            rintro e w4 ⟨rfl, hbut4, hblk4⟩
            have hbutX := (hbut2.drewN nd).setCell (b := b) 1 (.int .i64 (j + 1))
            obtain ⟨k0, hk0⟩ : ∃ k0, k0 = skip s (j + 1) := ⟨_, rfl⟩
            rw [← hk0] at hblk4
            have hk0s : k0 ≤ s.size := by rw [hk0]; exact skip_size s _ (by omega)
            have hk0j : j ≤ k0 := by rw [hk0]; exact Nat.le_trans (by omega) (skip_le s _)
            have HK0 : Hid (k0 = skip s (j + 1)) := hk0
            have HB4 : Hid (w4.heap[b]? = some (rblk s k0 (d + 1) (-1) lgj)) := hblk4
            have hbutY := hbutX.trans hbut4
            clear hblk4 hk0 hbut4 hbutX
            go_wp2_with fail
            refine (text_any b s k0 (d + 1) lgj _ (by exact HB4.out) hs).mono ?_
            rintro e w41 ⟨rfl, hbut41, hblk41⟩
            have hbutZ := hbutY.trans hbut41
            have htb := textR_bd s k0
            have htl := textR_le hk0s
            have htg := textR_ge s k0
            have htn : (textR s k0).2.2 < 0 → (textR s k0).2.2 = -1 := textR_neg
            obtain ⟨kt, bt, hkt⟩ : ∃ kt bt, ((textR s k0).2.1, (textR s k0).2.2) = (kt, bt) := ⟨_, _, rfl⟩
            simp only [Prod.mk.injEq] at hkt
            rw [hkt.1, hkt.2] at hblk41
            rw [hkt.2] at htb htl htn
            rw [hkt.1] at htl htg
            have HKT1 : Hid ((textR s k0).2.1 = kt) := hkt.1
            have HKT2 : Hid ((textR s k0).2.2 = bt) := hkt.2
            have HB41 : Hid (w41.heap[b]? = some (rblk s kt (d + 1) bt lgj)) := hblk41
            clear hblk41 hkt hbutY hbut41
            by_cases hbt : 0 ≤ bt
            · have HF : Hid (R = .error bt.toNat) := by
                show _ = _
                rw [← HL.out, objF_key (t := textR s k0) HC125.out (Or.inr HC.out.symm) (by rw [HK0.out]; rfl) rfl (by rw [HKT2.out]; exact hbt), HKT2.out]
              clear htl htn htg
              go_wp2_with (go_at_call 53; refine (blanks_dead b s kt (d + 1) bt lgj _ (by exact HB41.out) hbt).mono ?_; rintro e w42 ⟨rfl, hbut42, hblk42⟩)
              refine (word_ex b s _ kt (d + 1) bt lgj _ (by exact hblk42) hs (by omega) (by decide)).mono ?_
              rintro e w43 ⟨kw, bw, rfl, hbut43, hblk43, hrw, hbw43⟩
              have hrw2 : wordR s kt bt [58] = (kt, bt) := by simp only [wordR]; rw [cv_dead s kt hbt, if_neg (by decide), failed_dead kt hbt]
              have hrw3 : (kw, bw) = (kt, bt) := hrw.out.symm.trans hrw2
              simp only [Prod.mk.injEq] at hrw3
              obtain ⟨rfl, rfl⟩ := hrw3
              have hbutD := (hbutZ.trans hbut42).trans hbut43
              clear hrw hrw2 hbut42 hbut43 hblk42 hbutZ
              go_wp2_with fail
              refine (value_dead b s kw (d + 1) _ lgj _ (by exact hblk43) (by omega)).mono ?_
              rintro e w5 ⟨m5, rfl, hm5, hbut5, hblk5, hblkm5⟩
              have hbutW := hbutD
              have hinvW : ObjInv n w.heap.size _ ks vs := HN.out ▸ HI.out.but hbutW hbN
              have hNW : w.heap.size < _ := Nat.lt_of_lt_of_le (by have := HN.out; omega : w.heap.size < wr.heap.size) hbutW.size
              have hpt5 : PtrTo w5 (fun m => _ ≤ m) (.pointer (some ⟨m5, 0, none⟩)) := ⟨m5, _, _, _, _, _, _, rfl, hm5, hblkm5⟩
              go_wp2_with fail
              refine (put_obj _ hinvW hbut5 hbw rfl hNW hpt5 (by omega) (text_size hs)).mono ?_
              rintro e w6 ⟨rfl, hchg6, hvb6, hstep6⟩
              have hblk6 := (hchg6.block b (lt_of_heap hblk5) (by omega)).trans hblk5
              have hbut6 : But b w w6 := by
                have h1 := (hbut.trans hbutW).trans hbut5
                exact ⟨hchg6.os.trans h1.os, hchg6.tape.trans h1.tape, hchg6.output.trans h1.output, Nat.le_trans h1.size hchg6.size, fun i hi hn => (hchg6.block i (Nat.lt_of_lt_of_le hi h1.size) (by omega)).trans (h1.block i hi hn)⟩
              have hsz6 : N + 1 ≤ w6.heap.size := by have := hbutW.size; have := hbut5.size; have := hchg6.size; omega
              have HVB : Hid (∃ kind k s l ks wt, w6.heap[w.heap.size]? = some (vblk kind k s l ks wt)) := hvb6
              clear hbutW hinvW hNW hbut5 hchg6 hpt5 hstep6 hblk5 hblkm5 hm5 hvb6
              go_wp2_with (go_at_call 53; refine (blanks_dead b s kw (d + 1) _ lgj _ (by exact hblk6) (by omega)).mono ?_; rintro e w7 ⟨rfl, hbut7, hblk7⟩)
              go_roundg 0
              case measure => omega
              case rel =>
                obtain ⟨a1, a2, a3, a4, a5, a6, hv⟩ := HVB.out
                refine ⟨hbut6.trans hbut7, Nat.le_trans hsz6 hbut7.size, Or.inr ⟨false, kw, bw.toNat, lgj, rfl, HF.out, (by rw [show ((bw.toNat : Nat) : Int) = bw by omega]; exact hblk7), ?_⟩⟩
                exact ⟨a1, a2, a3, a4, a5, a6, (hbut7.block N (by omega) (by intro e; injection e; omega)).trans (by rw [HN.out]; exact hv)⟩
            · have hbte : bt = -1 := htn (by omega)
              subst hbte
              have hkts := htl (by omega)
              clear htb htl htn hbt
              go_wp2_with (go_at_call 53; refine (blanks_good b s kt (d + 1) lgj _ (by exact HB41.out) hs).mono ?_; rintro e w42 ⟨rfl, hbut42, hblk42⟩)
              obtain ⟨k1, hk1⟩ : ∃ k1, k1 = skip s kt := ⟨_, rfl⟩
              rw [← hk1] at hblk42
              have hk1s : k1 ≤ s.size := by rw [hk1]; exact skip_size s _ hkts
              have hk1g : j ≤ k1 := by rw [hk1]; have := skip_le s kt; omega
              have HK1 : Hid (k1 = skip s kt) := hk1
              clear hk1
              refine (word_ex b s _ k1 (d + 1) (-1) lgj _ (by exact hblk42) hs (by omega) (by decide)).mono ?_
              rintro e w43 ⟨kw, bw, rfl, hbut43, hblk43, hrw, hbw43⟩
              have hbutD := (hbutZ.trans hbut42).trans hbut43
              clear hbut42 hbut43 hblk42 hbutZ
              by_cases h58 : gb s k1 = 58
              · have hrw2 : wordR s k1 (-1) [58] = (k1 + 1, -1) := by simp only [wordR]; rw [cv_good, if_pos (by rw [h58]; rfl)]
                have hrw3 : (kw, bw) = (k1 + 1, (-1 : Int)) := hrw.out.symm.trans hrw2
                simp only [Prod.mk.injEq] at hrw3
                obtain ⟨rfl, rfl⟩ := hrw3
                have hk12 : k1 < s.size := lt_of_gb (by omega)
                have H58 : Hid (gb s k1 = 58) := h58
                clear hrw hrw2 h58 hbw43
                go_wp2_with fail
                refine (HV.out b s (k1 + 1) (d + 1) lgj _ HDN.out (by omega) (by exact hblk43) hs (by omega)).mono ?_
                rintro e w5 ⟨p2, v2, k2, bad2, lg2, rfl, hbut5, href5, hpt5, hblk5, hbad5, hle5, hres5⟩
                have hinvW : ObjInv n w.heap.size _ ks vs := HN.out ▸ HI.out.but hbutD hbN
                have hNW : w.heap.size < _ := Nat.lt_of_lt_of_le (by have := HN.out; omega : w.heap.size < wr.heap.size) hbutD.size
                have HB5 : Hid (w5.heap[b]? = some (rblk s k2 (d + 1) bad2 lg2)) := hblk5
                clear hblk5
                go_wp2_with fail
                refine (put_obj _ hinvW hbut5 hbw rfl hNW hpt5 (by omega) (text_size hs)).mono ?_
                rintro e w6 ⟨rfl, hchg6, hvb6, hstep6⟩
                have hblk6 : w6.heap[b]? = some (rblk s k2 (d + 1) bad2 lg2) := (hchg6.block b (lt_of_heap HB5.out) (by omega)).trans HB5.out
                have hbut6 : But b w w6 := by
                  have h1 := (hbut.trans hbutD).trans hbut5
                  exact ⟨hchg6.os.trans h1.os, hchg6.tape.trans h1.tape, hchg6.output.trans h1.output, Nat.le_trans h1.size hchg6.size, fun i hi hn => (hchg6.block i (Nat.lt_of_lt_of_le hi h1.size) (by omega)).trans (h1.block i hi hn)⟩
                have hsz6 : N + 1 ≤ w6.heap.size := by have := hbutD.size; have := hbut5.size; have := hchg6.size; omega
                clear hbutD hinvW hNW hbut5 hchg6 hpt5
                cases hpv : pval n s (k1 + 1) lgj with
                | error pp =>
                  have hr := hres5.out
                  rw [hpv] at hr
                  have hbe : bad2 = (pp : Int) := hr
                  subst hbe
                  have HF : Hid (R = .error pp) := by
                    show _ = _
                    rw [← HL.out]; exact objF_err (t := textR s k0) HC125.out (Or.inr HC.out.symm) (by rw [HK0.out]; rfl) rfl (by rw [HKT2.out]; omega) (by rw [HKT1.out, ← HK1.out]; exact H58.out) (by rw [HKT1.out, ← HK1.out]; exact hpv)
                  clear hr hpv hres5 hle5 href5 hstep6 hbad5
                  go_wp2_with (go_at_call 53; refine (blanks_dead b s k2 (d + 1) _ lg2 _ (by exact hblk6) (by omega)).mono ?_; rintro e w7 ⟨rfl, hbut7, hblk7⟩)
                  go_roundg 0
                  case measure => omega
                  case rel =>
                    refine ⟨hbut6.trans hbut7, Nat.le_trans hsz6 hbut7.size, Or.inr ⟨false, k2, pp, lg2, rfl, HF.out, hblk7, ?_⟩⟩
                    obtain ⟨a1, a2, a3, a4, a5, a6, hv⟩ := hvb6
                    exact ⟨a1, a2, a3, a4, a5, a6, (hbut7.block N (by omega) (by intro e; injection e; omega)).trans (by rw [HN.out]; exact hv)⟩
                | ok rr =>
                  have hr := hres5.out
                  rw [hpv] at hr
                  obtain ⟨hb1, hb2, hb3, hb4⟩ : bad2 = -1 ∧ v2 = rr.1 ∧ k2 = rr.2.1 ∧ lg2 = rr.2.2 := hr
                  subst hb1
                  have hkk := hle5.out (by omega)
                  have HF : Hid (objF (pval n s) s f false (skip s k2) lg2 (putK ks ⟨(textR s k0).1.toArray⟩) (putP ks vs ⟨(textR s k0).1.toArray⟩ v2) = R) := by
                    show _ = _
                    rw [← HL.out, objF_next (t := textR s k0) (v := v2) (k2 := k2) (lg2 := lg2) HC125.out (Or.inr HC.out.symm) (by rw [HK0.out]; rfl) rfl (by rw [HKT2.out]; omega) (by rw [HKT1.out, ← HK1.out]; exact H58.out) (by rw [HKT1.out, ← HK1.out, hb2, hb3, hb4]; exact hpv)]
                  have HI6 : Hid (ObjInv n w.heap.size w6 (putK ks ⟨(textR s k0).1.toArray⟩) (putP ks vs ⟨(textR s k0).1.toArray⟩ v2)) := hstep6.out v2 (href5.out (by omega))
                  clear hpv hres5 hle5 href5 hstep6 hb2 hb3 hb4 hbad5 hvb6
                  go_wp2_with (go_at_call 53; refine (blanks_good b s k2 (d + 1) lg2 _ (by exact hblk6) hs).mono ?_; rintro e w7 ⟨rfl, hbut7, hblk7⟩)
                  have hsk := skip_le s k2
                  have hjg2 := HJG.out
                  simp at hjg2
                  have hpl := putP_length ks vs ⟨(textR s k0).1.toArray⟩ v2
                  go_roundg f
                  case measure => omega
                  case rel =>
                    refine ⟨hbut6.trans hbut7, Nat.le_trans hsz6 hbut7.size, Or.inl ⟨false, skip s k2, lg2, _, _, rfl, by omega, skip_size s k2 hkk.2, by simp; omega, by omega, HF.out, hblk7, ?_⟩⟩
                    exact (HN.out ▸ HI6.out : ObjInv n N w6 _ _).but hbut7 hbN
              · have hrw2 : wordR s k1 (-1) [58] = (k1, (k1 : Int)) := by simp only [wordR]; rw [cv_good, if_neg (by simpa using h58), failed_good]
                have hrw3 : (kw, bw) = (k1, (k1 : Int)) := hrw.out.symm.trans hrw2
                simp only [Prod.mk.injEq] at hrw3
                obtain ⟨hkw, hbwe⟩ := hrw3
                subst hkw
                subst hbwe
                have HF : Hid (R = .error kw) := by
                  show _ = _
                  rw [← HL.out, objF_colon (t := textR s k0) HC125.out (Or.inr HC.out.symm) (by rw [HK0.out]; rfl) rfl (by rw [HKT2.out]; omega) (by rw [HKT1.out, ← HK1.out]; exact h58), HKT1.out, ← HK1.out]
                clear hrw hrw2 h58 hbw43
                go_wp2_with fail
                refine (value_dead b s kw (d + 1) _ lgj _ (by exact hblk43) (by omega)).mono ?_
                rintro e w5 ⟨m5, rfl, hm5, hbut5, hblk5, hblkm5⟩
                have hbutW := hbutD
                have hinvW : ObjInv n w.heap.size _ ks vs := HN.out ▸ HI.out.but hbutW hbN
                have hNW : w.heap.size < _ := Nat.lt_of_lt_of_le (by have := HN.out; omega : w.heap.size < wr.heap.size) hbutW.size
                have hpt5 : PtrTo w5 (fun m => _ ≤ m) (.pointer (some ⟨m5, 0, none⟩)) := ⟨m5, _, _, _, _, _, _, rfl, hm5, hblkm5⟩
                go_wp2_with fail
                refine (put_obj _ hinvW hbut5 hbw rfl hNW hpt5 (by omega) (text_size hs)).mono ?_
                rintro e w6 ⟨rfl, hchg6, hvb6, hstep6⟩
                have hblk6 := (hchg6.block b (lt_of_heap hblk5) (by omega)).trans hblk5
                have hbut6 : But b w w6 := by
                  have h1 := (hbut.trans hbutW).trans hbut5
                  exact ⟨hchg6.os.trans h1.os, hchg6.tape.trans h1.tape, hchg6.output.trans h1.output, Nat.le_trans h1.size hchg6.size, fun i hi hn => (hchg6.block i (Nat.lt_of_lt_of_le hi h1.size) (by omega)).trans (h1.block i hi hn)⟩
                have hsz6 : N + 1 ≤ w6.heap.size := by have := hbutW.size; have := hbut5.size; have := hchg6.size; omega
                have HVB : Hid (∃ kind k s l ks wt, w6.heap[w.heap.size]? = some (vblk kind k s l ks wt)) := hvb6
                clear hbutW hinvW hNW hbut5 hchg6 hpt5 hstep6 hblk5 hblkm5 hm5 hvb6
                go_wp2_with (go_at_call 53; refine (blanks_dead b s kw (d + 1) _ lgj _ (by exact hblk6) (by omega)).mono ?_; rintro e w7 ⟨rfl, hbut7, hblk7⟩)
                go_roundg 0
                case measure => omega
                case rel =>
                  obtain ⟨a1, a2, a3, a4, a5, a6, hv⟩ := HVB.out
                  refine ⟨hbut6.trans hbut7, Nat.le_trans hsz6 hbut7.size, Or.inr ⟨false, kw, kw, lgj, rfl, HF.out, hblk7, ?_⟩⟩
                  exact ⟨a1, a2, a3, a4, a5, a6, (hbut7.block N (by omega) (by intro e; injection e; omega)).trans (by rw [HN.out]; exact hv)⟩
          · have h44b : (c != 44) = true := by rw [bne_iff_ne]; exact h44
            have HF : Hid (R = .error j) := HL.out.symm.trans (objF_bad HC125.out (by rw [← HC.out]; exact h44))
            clear h44
            go_wp2_with (first
              | (go_at_call 118; refine (take_no b s j (d + 1) (-1) lgj 125 _ (by exact HB2.out) HCV.out (by omega) (by omega)).mono ?_; rintro e w2 ⟨rfl, hbut2, hblk2⟩; have HB3 : Hid (w2.heap[b]? = some (rblk s j (d + 1) (-1) lgj)) := hblk2; clear hblk2)
              | (go_at_call 79; refine (c_any b s j (d + 1) (-1) lgj _ (by exact HB3.out)).mono ?_; rintro e w3 ⟨rfl, nd, rfl⟩; rw [cv_good, ← HC.out])
              | (go_at_call 87; refine (fail_good b s j (d + 1) lgj _ (by exact HB3.out)).mono ?_; rintro e w4 ⟨rfl, hbut4, hblk4⟩; obtain ⟨q0, q1, q2, q3, q4, qf⟩ := rcells hblk4; have HB4 : Hid (w4.heap[b]? = some (rblk s j (d + 1) j lgj)) := hblk4; clear hblk4 q0 q1 q3 q4))
            go_ret
            have hbutB := ((hbut2.drewN _).trans hbut4).setCell (b := b) 2 (.int .i64 d)
            have hinv2 := HI.out.but hbutB hbN
            refine ⟨.pointer (some ⟨N, 0, none⟩), VT.obj ks vs, j, j, lgj, ?_, hbut.trans hbutB, fun h => absurd h (by omega), ?_, rset_deep HB4.out d, by omega, fun h => absurd h (by omega), ?_⟩
            · rw [HN.out]; rfl
            · rw [← HN.out]; exact hinv2.ptr
            · show ResIs _ _ _ _ _
              rw [HBR.out, HF.out]; rfl
        · go_wp2_with (first
              | (go_at_call 118; refine (take_no b s j (d + 1) (-1) lgj 125 _ (by exact HB2.out) HCV.out (by omega) (by omega)).mono ?_; rintro e w2 ⟨rfl, hbut2, hblk2⟩; have HB3 : Hid (w2.heap[b]? = some (rblk s j (d + 1) (-1) lgj)) := hblk2; clear hblk2))
          refine (blanks_good b s j (d + 1) lgj _ (by exact HB3.out) hs).mono ?_
          rintro e w4 ⟨rfl, hbut4, hblk4⟩
          have hbutX := hbut2
          obtain ⟨k0, hk0⟩ : ∃ k0, k0 = skip s j := ⟨_, rfl⟩
          rw [← hk0] at hblk4
          have hk0s : k0 ≤ s.size := by rw [hk0]; exact skip_size s _ (by omega)
          have hk0j : j ≤ k0 := by rw [hk0]; exact Nat.le_trans (by omega) (skip_le s _)
          have HK0 : Hid (k0 = skip s j) := hk0
          have HB4 : Hid (w4.heap[b]? = some (rblk s k0 (d + 1) (-1) lgj)) := hblk4
          have hbutY := hbutX.trans hbut4
          clear hblk4 hk0 hbut4 hbutX
          go_wp2_with fail
          refine (text_any b s k0 (d + 1) lgj _ (by exact HB4.out) hs).mono ?_
          rintro e w41 ⟨rfl, hbut41, hblk41⟩
          have hbutZ := hbutY.trans hbut41
          have htb := textR_bd s k0
          have htl := textR_le hk0s
          have htg := textR_ge s k0
          have htn : (textR s k0).2.2 < 0 → (textR s k0).2.2 = -1 := textR_neg
          obtain ⟨kt, bt, hkt⟩ : ∃ kt bt, ((textR s k0).2.1, (textR s k0).2.2) = (kt, bt) := ⟨_, _, rfl⟩
          simp only [Prod.mk.injEq] at hkt
          rw [hkt.1, hkt.2] at hblk41
          rw [hkt.2] at htb htl htn
          rw [hkt.1] at htl htg
          have HKT1 : Hid ((textR s k0).2.1 = kt) := hkt.1
          have HKT2 : Hid ((textR s k0).2.2 = bt) := hkt.2
          have HB41 : Hid (w41.heap[b]? = some (rblk s kt (d + 1) bt lgj)) := hblk41
          clear hblk41 hkt hbutY hbut41
          by_cases hbt : 0 ≤ bt
          · have HF : Hid (R = .error bt.toNat) := by
              show _ = _
              rw [← HL.out, objF_key (t := textR s k0) HC125.out (Or.inl rfl) (by rw [HK0.out]; rfl) rfl (by rw [HKT2.out]; exact hbt), HKT2.out]
            clear htl htn htg
            go_wp2_with (go_at_call 53; refine (blanks_dead b s kt (d + 1) bt lgj _ (by exact HB41.out) hbt).mono ?_; rintro e w42 ⟨rfl, hbut42, hblk42⟩)
            refine (word_ex b s _ kt (d + 1) bt lgj _ (by exact hblk42) hs (by omega) (by decide)).mono ?_
            rintro e w43 ⟨kw, bw, rfl, hbut43, hblk43, hrw, hbw43⟩
            have hrw2 : wordR s kt bt [58] = (kt, bt) := by simp only [wordR]; rw [cv_dead s kt hbt, if_neg (by decide), failed_dead kt hbt]
            have hrw3 : (kw, bw) = (kt, bt) := hrw.out.symm.trans hrw2
            simp only [Prod.mk.injEq] at hrw3
            obtain ⟨rfl, rfl⟩ := hrw3
            have hbutD := (hbutZ.trans hbut42).trans hbut43
            clear hrw hrw2 hbut42 hbut43 hblk42 hbutZ
            go_wp2_with fail
            refine (value_dead b s kw (d + 1) _ lgj _ (by exact hblk43) (by omega)).mono ?_
            rintro e w5 ⟨m5, rfl, hm5, hbut5, hblk5, hblkm5⟩
            have hbutW := hbutD
            have hinvW : ObjInv n w.heap.size _ ks vs := HN.out ▸ HI.out.but hbutW hbN
            have hNW : w.heap.size < _ := Nat.lt_of_lt_of_le (by have := HN.out; omega : w.heap.size < wr.heap.size) hbutW.size
            have hpt5 : PtrTo w5 (fun m => _ ≤ m) (.pointer (some ⟨m5, 0, none⟩)) := ⟨m5, _, _, _, _, _, _, rfl, hm5, hblkm5⟩
            go_wp2_with fail
            refine (put_obj _ hinvW hbut5 hbw rfl hNW hpt5 (by omega) (text_size hs)).mono ?_
            rintro e w6 ⟨rfl, hchg6, hvb6, hstep6⟩
            have hblk6 := (hchg6.block b (lt_of_heap hblk5) (by omega)).trans hblk5
            have hbut6 : But b w w6 := by
              have h1 := (hbut.trans hbutW).trans hbut5
              exact ⟨hchg6.os.trans h1.os, hchg6.tape.trans h1.tape, hchg6.output.trans h1.output, Nat.le_trans h1.size hchg6.size, fun i hi hn => (hchg6.block i (Nat.lt_of_lt_of_le hi h1.size) (by omega)).trans (h1.block i hi hn)⟩
            have hsz6 : N + 1 ≤ w6.heap.size := by have := hbutW.size; have := hbut5.size; have := hchg6.size; omega
            have HVB : Hid (∃ kind k s l ks wt, w6.heap[w.heap.size]? = some (vblk kind k s l ks wt)) := hvb6
            clear hbutW hinvW hNW hbut5 hchg6 hpt5 hstep6 hblk5 hblkm5 hm5 hvb6
            go_wp2_with (go_at_call 53; refine (blanks_dead b s kw (d + 1) _ lgj _ (by exact hblk6) (by omega)).mono ?_; rintro e w7 ⟨rfl, hbut7, hblk7⟩)
            go_roundg 0
            case measure => omega
            case rel =>
              obtain ⟨a1, a2, a3, a4, a5, a6, hv⟩ := HVB.out
              refine ⟨hbut6.trans hbut7, Nat.le_trans hsz6 hbut7.size, Or.inr ⟨false, kw, bw.toNat, lgj, rfl, HF.out, (by rw [show ((bw.toNat : Nat) : Int) = bw by omega]; exact hblk7), ?_⟩⟩
              exact ⟨a1, a2, a3, a4, a5, a6, (hbut7.block N (by omega) (by intro e; injection e; omega)).trans (by rw [HN.out]; exact hv)⟩
          · have hbte : bt = -1 := htn (by omega)
            subst hbte
            have hkts := htl (by omega)
            clear htb htl htn hbt
            go_wp2_with (go_at_call 53; refine (blanks_good b s kt (d + 1) lgj _ (by exact HB41.out) hs).mono ?_; rintro e w42 ⟨rfl, hbut42, hblk42⟩)
            obtain ⟨k1, hk1⟩ : ∃ k1, k1 = skip s kt := ⟨_, rfl⟩
            rw [← hk1] at hblk42
            have hk1s : k1 ≤ s.size := by rw [hk1]; exact skip_size s _ hkts
            have hk1g : j ≤ k1 := by rw [hk1]; have := skip_le s kt; omega
            have HK1 : Hid (k1 = skip s kt) := hk1
            clear hk1
            refine (word_ex b s _ k1 (d + 1) (-1) lgj _ (by exact hblk42) hs (by omega) (by decide)).mono ?_
            rintro e w43 ⟨kw, bw, rfl, hbut43, hblk43, hrw, hbw43⟩
            have hbutD := (hbutZ.trans hbut42).trans hbut43
            clear hbut42 hbut43 hblk42 hbutZ
            by_cases h58 : gb s k1 = 58
            · have hrw2 : wordR s k1 (-1) [58] = (k1 + 1, -1) := by simp only [wordR]; rw [cv_good, if_pos (by rw [h58]; rfl)]
              have hrw3 : (kw, bw) = (k1 + 1, (-1 : Int)) := hrw.out.symm.trans hrw2
              simp only [Prod.mk.injEq] at hrw3
              obtain ⟨rfl, rfl⟩ := hrw3
              have hk12 : k1 < s.size := lt_of_gb (by omega)
              have H58 : Hid (gb s k1 = 58) := h58
              clear hrw hrw2 h58 hbw43
              go_wp2_with fail
              refine (HV.out b s (k1 + 1) (d + 1) lgj _ HDN.out (by omega) (by exact hblk43) hs (by omega)).mono ?_
              rintro e w5 ⟨p2, v2, k2, bad2, lg2, rfl, hbut5, href5, hpt5, hblk5, hbad5, hle5, hres5⟩
              have hinvW : ObjInv n w.heap.size _ ks vs := HN.out ▸ HI.out.but hbutD hbN
              have hNW : w.heap.size < _ := Nat.lt_of_lt_of_le (by have := HN.out; omega : w.heap.size < wr.heap.size) hbutD.size
              have HB5 : Hid (w5.heap[b]? = some (rblk s k2 (d + 1) bad2 lg2)) := hblk5
              clear hblk5
              go_wp2_with fail
              refine (put_obj _ hinvW hbut5 hbw rfl hNW hpt5 (by omega) (text_size hs)).mono ?_
              rintro e w6 ⟨rfl, hchg6, hvb6, hstep6⟩
              have hblk6 : w6.heap[b]? = some (rblk s k2 (d + 1) bad2 lg2) := (hchg6.block b (lt_of_heap HB5.out) (by omega)).trans HB5.out
              have hbut6 : But b w w6 := by
                have h1 := (hbut.trans hbutD).trans hbut5
                exact ⟨hchg6.os.trans h1.os, hchg6.tape.trans h1.tape, hchg6.output.trans h1.output, Nat.le_trans h1.size hchg6.size, fun i hi hn => (hchg6.block i (Nat.lt_of_lt_of_le hi h1.size) (by omega)).trans (h1.block i hi hn)⟩
              have hsz6 : N + 1 ≤ w6.heap.size := by have := hbutD.size; have := hbut5.size; have := hchg6.size; omega
              clear hbutD hinvW hNW hbut5 hchg6 hpt5
              cases hpv : pval n s (k1 + 1) lgj with
              | error pp =>
                have hr := hres5.out
                rw [hpv] at hr
                have hbe : bad2 = (pp : Int) := hr
                subst hbe
                have HF : Hid (R = .error pp) := by
                  show _ = _
                  rw [← HL.out]; exact objF_err (t := textR s k0) HC125.out (Or.inl rfl) (by rw [HK0.out]; rfl) rfl (by rw [HKT2.out]; omega) (by rw [HKT1.out, ← HK1.out]; exact H58.out) (by rw [HKT1.out, ← HK1.out]; exact hpv)
                clear hr hpv hres5 hle5 href5 hstep6 hbad5
                go_wp2_with (go_at_call 53; refine (blanks_dead b s k2 (d + 1) _ lg2 _ (by exact hblk6) (by omega)).mono ?_; rintro e w7 ⟨rfl, hbut7, hblk7⟩)
                go_roundg 0
                case measure => omega
                case rel =>
                  refine ⟨hbut6.trans hbut7, Nat.le_trans hsz6 hbut7.size, Or.inr ⟨false, k2, pp, lg2, rfl, HF.out, hblk7, ?_⟩⟩
                  obtain ⟨a1, a2, a3, a4, a5, a6, hv⟩ := hvb6
                  exact ⟨a1, a2, a3, a4, a5, a6, (hbut7.block N (by omega) (by intro e; injection e; omega)).trans (by rw [HN.out]; exact hv)⟩
              | ok rr =>
                have hr := hres5.out
                rw [hpv] at hr
                obtain ⟨hb1, hb2, hb3, hb4⟩ : bad2 = -1 ∧ v2 = rr.1 ∧ k2 = rr.2.1 ∧ lg2 = rr.2.2 := hr
                subst hb1
                have hkk := hle5.out (by omega)
                have HF : Hid (objF (pval n s) s f false (skip s k2) lg2 (putK ks ⟨(textR s k0).1.toArray⟩) (putP ks vs ⟨(textR s k0).1.toArray⟩ v2) = R) := by
                  show _ = _
                  rw [← HL.out, objF_next (t := textR s k0) (v := v2) (k2 := k2) (lg2 := lg2) HC125.out (Or.inl rfl) (by rw [HK0.out]; rfl) rfl (by rw [HKT2.out]; omega) (by rw [HKT1.out, ← HK1.out]; exact H58.out) (by rw [HKT1.out, ← HK1.out, hb2, hb3, hb4]; exact hpv)]
                have HI6 : Hid (ObjInv n w.heap.size w6 (putK ks ⟨(textR s k0).1.toArray⟩) (putP ks vs ⟨(textR s k0).1.toArray⟩ v2)) := hstep6.out v2 (href5.out (by omega))
                clear hpv hres5 hle5 href5 hstep6 hb2 hb3 hb4 hbad5 hvb6
                go_wp2_with (go_at_call 53; refine (blanks_good b s k2 (d + 1) lg2 _ (by exact hblk6) hs).mono ?_; rintro e w7 ⟨rfl, hbut7, hblk7⟩)
                have hsk := skip_le s k2
                have hjg2 := HJG.out
                simp at hjg2
                have hpl := putP_length ks vs ⟨(textR s k0).1.toArray⟩ v2
                go_roundg f
                case measure => omega
                case rel =>
                  refine ⟨hbut6.trans hbut7, Nat.le_trans hsz6 hbut7.size, Or.inl ⟨false, skip s k2, lg2, _, _, rfl, by omega, skip_size s k2 hkk.2, by simp; omega, by omega, HF.out, hblk7, ?_⟩⟩
                  exact (HN.out ▸ HI6.out : ObjInv n N w6 _ _).but hbut7 hbN
            · have hrw2 : wordR s k1 (-1) [58] = (k1, (k1 : Int)) := by simp only [wordR]; rw [cv_good, if_neg (by simpa using h58), failed_good]
              have hrw3 : (kw, bw) = (k1, (k1 : Int)) := hrw.out.symm.trans hrw2
              simp only [Prod.mk.injEq] at hrw3
              obtain ⟨hkw, hbwe⟩ := hrw3
              subst hkw
              subst hbwe
              have HF : Hid (R = .error kw) := by
                show _ = _
                rw [← HL.out, objF_colon (t := textR s k0) HC125.out (Or.inl rfl) (by rw [HK0.out]; rfl) rfl (by rw [HKT2.out]; omega) (by rw [HKT1.out, ← HK1.out]; exact h58), HKT1.out, ← HK1.out]
              clear hrw hrw2 h58 hbw43
              go_wp2_with fail
              refine (value_dead b s kw (d + 1) _ lgj _ (by exact hblk43) (by omega)).mono ?_
              rintro e w5 ⟨m5, rfl, hm5, hbut5, hblk5, hblkm5⟩
              have hbutW := hbutD
              have hinvW : ObjInv n w.heap.size _ ks vs := HN.out ▸ HI.out.but hbutW hbN
              have hNW : w.heap.size < _ := Nat.lt_of_lt_of_le (by have := HN.out; omega : w.heap.size < wr.heap.size) hbutW.size
              have hpt5 : PtrTo w5 (fun m => _ ≤ m) (.pointer (some ⟨m5, 0, none⟩)) := ⟨m5, _, _, _, _, _, _, rfl, hm5, hblkm5⟩
              go_wp2_with fail
              refine (put_obj _ hinvW hbut5 hbw rfl hNW hpt5 (by omega) (text_size hs)).mono ?_
              rintro e w6 ⟨rfl, hchg6, hvb6, hstep6⟩
              have hblk6 := (hchg6.block b (lt_of_heap hblk5) (by omega)).trans hblk5
              have hbut6 : But b w w6 := by
                have h1 := (hbut.trans hbutW).trans hbut5
                exact ⟨hchg6.os.trans h1.os, hchg6.tape.trans h1.tape, hchg6.output.trans h1.output, Nat.le_trans h1.size hchg6.size, fun i hi hn => (hchg6.block i (Nat.lt_of_lt_of_le hi h1.size) (by omega)).trans (h1.block i hi hn)⟩
              have hsz6 : N + 1 ≤ w6.heap.size := by have := hbutW.size; have := hbut5.size; have := hchg6.size; omega
              have HVB : Hid (∃ kind k s l ks wt, w6.heap[w.heap.size]? = some (vblk kind k s l ks wt)) := hvb6
              clear hbutW hinvW hNW hbut5 hchg6 hpt5 hstep6 hblk5 hblkm5 hm5 hvb6
              go_wp2_with (go_at_call 53; refine (blanks_dead b s kw (d + 1) _ lgj _ (by exact hblk6) (by omega)).mono ?_; rintro e w7 ⟨rfl, hbut7, hblk7⟩)
              go_roundg 0
              case measure => omega
              case rel =>
                obtain ⟨a1, a2, a3, a4, a5, a6, hv⟩ := HVB.out
                refine ⟨hbut6.trans hbut7, Nat.le_trans hsz6 hbut7.size, Or.inr ⟨false, kw, kw, lgj, rfl, HF.out, hblk7, ?_⟩⟩
                exact ⟨a1, a2, a3, a4, a5, a6, (hbut7.block N (by omega) (by intro e; injection e; omega)).trans (by rw [HN.out]; exact hv)⟩
    · have HRe : Hid (R = .error p) := hRe
      have HB2 : Hid (wr.heap[b]? = some (rblk s k' (d + 1) (p : Nat) lg')) := hblk
      obtain ⟨g0, g1, g2, g3, g4, hf⟩ := rcells hblk
      clear hRe hblk g0 g1 g4
      go_wp2
      go_ret
      obtain ⟨kind, kk, ss, l, ks, wt, hvb⟩ := hvb
      refine ⟨_, VT.obj [] [], k', p, lg', rfl, hbut.setCell _ _, fun h => absurd h (by omega), ⟨N, _, _, _, _, _, _, ?_, by rw [HN.out]; exact Nat.le_refl _, heap_set_other hvb (by omega) _⟩, ?_, by omega, fun h => absurd h (by omega), ?_⟩
      · rw [HN.out]; rfl
      · exact rset_deep HB2.out d
      · show ResIs _ _ _ _ _
        rw [HBR.out, HRe.out]; rfl

end Go.Proofs.YtjaoocincdoaaaaGreatDoor

namespace Go.Proofs.YtjaoocincdoaaaaGreatDoor
open Go.RowKit J

set_option linter.unusedVariables false

theorem val_br_all : ∀ n, ValSaid n ∧ BrSaid n
  | 0 => ⟨value_of 0 br_zero, br_zero⟩
  | n + 1 => by
    have ih := (val_br_all n).1
    have hb : BrSaid (n + 1) := by
      intro b s k d lg obj w hd hd0 hb hs hk
      cases obj
      · exact br_list n ih b s k d lg w hd hd0 hb hs hk
      · exact br_obj n ih b s k d lg w hd hd0 hb hs hk
    exact ⟨value_of (n + 1) hb, hb⟩

/-- The digits of a number, so many at least. -/
def digF : Nat → Nat → Nat → List UInt8 → List UInt8
  | 0, _, _, acc => acc
  | f + 1, n, least, acc => if 0 < n ∨ acc.length < least then digF f (n / 10) least (UInt8.ofNat (48 + n % 10) :: acc) else acc
def digB (n least : Nat) : List UInt8 := digF 40 n least []

theorem dig_cut (d : Nat) (h : d < 10) : (⟨#[48, 49, 50, 51, 52, 53, 54, 55, 56, 57]⟩ : ByteArray).extract d (d + 1) = ⟨#[UInt8.ofNat (48 + d)]⟩ := by
  rcases (show d = 0 ∨ d = 1 ∨ d = 2 ∨ d = 3 ∨ d = 4 ∨ d = 5 ∨ d = 6 ∨ d = 7 ∨ d = 8 ∨ d = 9 from by omega) with rfl | rfl | rfl | rfl | rfl | rfl | rfl | rfl | rfl | rfl <;> rfl

theorem cons_bytes (c : UInt8) (l : List UInt8) : (⟨#[c]⟩ : ByteArray) ++ (⟨l.toArray⟩ : ByteArray) = ⟨(c :: l).toArray⟩ := by
  apply ByteArray.ext
  rw [ByteArray.data_append]
  simp

set_option maxHeartbeats 1000000 in
theorem digits_any (m least : Nat) (w : World) (hm : m ≤ 1000000000000000000) (hl : least ≤ 10) :
    Calls Tryz.prog 88 #[.int .i64 m, .int .i64 least] w fun e w' => e = .returned (.string ⟨(digB m least).toArray⟩) ∧ w = w' := by
  obtain ⟨R, hR⟩ : ∃ R, R = digB m least := ⟨_, rfl⟩
  have HR : Hid (digF 40 m least [] = R) := hR.symm
  rw [← hR]
  clear hR
  go_enter Tryz.func88, Tryz.ntmps88
  go_wp2_with fail
  go_loopg [0, 5] 40 (fun g nv sv wr => w = wr ∧ ∃ (x : Nat) (acc : List UInt8), nv = .int .i64 x ∧ sv = .string ⟨acc.toArray⟩ ∧ x ≤ 1000000000000000000 ∧ acc.length + g = 40 ∧ digF g x least acc = R ∧ x < 10 ^ g ∧ least ≤ acc.length + g)
  case atStart => exact ⟨rfl, m, [], rfl, rfl, hm, by simp, HR.out, Nat.lt_of_le_of_lt hm (by decide), by omega⟩
  case round =>
    obtain ⟨rfl, x, acc, rfl, rfl, hx, hag, hD, hxg, hlg⟩ := hrel
    have HD : Hid (digF gk x least acc = R) := hD
    have HXG : Hid (x < 10 ^ gk) := hxg
    clear hD hxg
    by_cases hc : 0 < x ∨ acc.length < least
    · obtain ⟨f, rfl⟩ : ∃ f, gk = f + 1 := by
        cases gk with
        | zero => have := HXG.out; simp at this; omega
        | succ f => exact ⟨f, rfl⟩
      have HN : Hid (digF f (x / 10) least (UInt8.ofNat (48 + x % 10) :: acc) = R) := by
        show _ = _
        rw [← HD.out, digF, if_pos hc]
      have HX2 : Hid (x / 10 < 10 ^ f) := by
        show _ < _
        have := HXG.out
        rw [Nat.pow_succ] at this
        omega
      have hd10 : x % 10 < 10 := Nat.mod_lt _ (by decide)
      have HCUT : Hid ((⟨#[48, 49, 50, 51, 52, 53, 54, 55, 56, 57]⟩ : ByteArray).extract (x % 10) (x % 10 + 1) ++ (⟨acc.toArray⟩ : ByteArray) = ⟨(UInt8.ofNat (48 + x % 10) :: acc).toArray⟩) := by show _ = _; rw [dig_cut (x % 10) hd10]; exact cons_bytes _ acc
      have hasz : (⟨acc.toArray⟩ : ByteArray).size = acc.length := by simp [ByteArray.size]
      rcases (show 0 < x ∨ (x = 0 ∧ acc.length < least) from by omega) with hc1 | ⟨hc1, hc2⟩
      · go_wp2
        go_roundg f
        case measure => omega
        case rel => exact ⟨rfl, x / 10, _, by go_num, congrArg Value.string HCUT.out, by omega, by simp; omega, HN.out, HX2.out, by simp; omega⟩
      · subst hc1
        go_wp2
        go_roundg f
        case measure => omega
        case rel => exact ⟨rfl, 0 / 10, _, by go_num, congrArg Value.string HCUT.out, by omega, by simp; omega, HN.out, HX2.out, by simp; omega⟩
    · have HF : Hid (R = acc) := by
        show _ = _
        rw [← HD.out]
        cases gk with
        | zero => rfl
        | succ f => rw [digF, if_neg hc]
      have hc1 : x = 0 := by omega
      have hc2 : ¬ acc.length < least := by omega
      subst hc1
      have hasz : (⟨acc.toArray⟩ : ByteArray).size = acc.length := by simp [ByteArray.size]
      clear hc
      go_wp2
      go_ret
      exact ⟨by rw [HF.out]; rfl, rfl⟩

end Go.Proofs.YtjaoocincdoaaaaGreatDoor

namespace Go.Proofs.YtjaoocincdoaaaaGreatDoor
open Go.RowKit J

set_option linter.unusedVariables false

/-- Without noughts at the end. -/
def trim0 (l : List UInt8) : List UInt8 := (l.reverse.dropWhile (fun c => c == 48)).reverse
theorem trim0_nil : trim0 [] = [] := rfl
theorem trim0_snoc_no (l : List UInt8) (c : UInt8) (h : c ≠ 48) : trim0 (l ++ [c]) = l ++ [c] := by
  unfold trim0; rw [List.reverse_append]; simp [h]
theorem trim0_snoc_yes (l : List UInt8) : trim0 (l ++ [48]) = trim0 l := by
  unfold trim0; rw [List.reverse_append]; simp

/-- A number, written. -/
def decB (n : Int) : List UInt8 :=
  (if n < 0 then [45] else []) ++ digB (n.natAbs / 1000000) 1 ++ (if trim0 (digB (n.natAbs % 1000000) 6) = [] then [] else 46 :: trim0 (digB (n.natAbs % 1000000) 6))

theorem snoc_cases {α : Type} (l : List α) : l = [] ∨ ∃ a c, l = a ++ [c] := by
  rcases List.eq_nil_or_concat l with h | ⟨a, c, h⟩
  · exact Or.inl h
  · exact Or.inr ⟨a, c, by rw [h, List.concat_eq_append]⟩

def bs (l : List UInt8) : ByteArray := ⟨l.toArray⟩
theorem bs_append (a b : List UInt8) : bs a ++ bs b = bs (a ++ b) := by
  apply ByteArray.ext; rw [ByteArray.data_append]; simp [bs]
theorem bs_size (a : List UInt8) : (bs a).size = a.length := by simp [bs, ByteArray.size]
theorem bs_toList (a : List UInt8) : (bs a).data.toList = a := by simp [bs]
theorem bs_get (a : List UInt8) (i : Nat) (h : i < (bs a).size) : (bs a)[i] = a[i]'(by rw [bs_size] at h; exact h) := by simp [bs]; rfl
theorem bs_init (a : List UInt8) (c : UInt8) : (bs (a ++ [c])).extract 0 a.length = bs a := by
  apply ByteArray.ext
  rw [ByteArray.data_extract]
  simp [bs]

theorem digits_bs (m least : Nat) (w : World) (hm : m ≤ 1000000000000000000) (hl : least ≤ 10) {x y : Int} (hx : x = (m : Int)) (hy : y = (least : Int)) :
    Calls Tryz.prog 88 #[.int .i64 x, .int .i64 y] w fun e w' => e = .returned (.string (bs (digB m least))) ∧ w = w' := by subst hx; subst hy; exact digits_any m least w hm hl

theorem digF_len : ∀ (f n least : Nat) (acc : List UInt8), (digF f n least acc).length ≤ acc.length + f
  | 0, n, least, acc => by simp [digF]
  | f + 1, n, least, acc => by
    simp only [digF]
    split
    · have := digF_len f (n / 10) least (UInt8.ofNat (48 + n % 10) :: acc); rw [List.length_cons] at this; omega
    · omega

set_option maxHeartbeats 2000000 in
theorem decimal_pos (sg : List UInt8) (m : Nat) (n : Int) (w : World) (hm : m ≤ 1000000000000000000) (hn : (n = m ∧ sg = [] ∧ 0 ≤ n) ∨ (n = -(m : Int) ∧ sg = [45] ∧ n < 0)) :
    Calls Tryz.prog 54 #[.int .i64 n] w fun e w' => e = .returned (.string (bs (sg ++ digB (m / 1000000) 1 ++ (if trim0 (digB (m % 1000000) 6) = [] then [] else 46 :: trim0 (digB (m % 1000000) 6))))) ∧ w = w' := by
  have h1 := digF_len 40 (m / 1000000) 1 []
  have h2 := digF_len 40 (m % 1000000) 6 []
  obtain ⟨A, hA⟩ : ∃ A, A = digB (m / 1000000) 1 := ⟨_, rfl⟩
  obtain ⟨B, hB⟩ : ∃ B, B = digB (m % 1000000) 6 := ⟨_, rfl⟩
  have hAl : A.length ≤ 40 := by rw [hA]; simpa [digB] using h1
  have hBl : B.length ≤ 40 := by rw [hB]; simpa [digB] using h2
  have HA : Hid (digB (m / 1000000) 1 = A) := hA.symm
  have HBB : Hid (digB (m % 1000000) 6 = B) := hB.symm
  rw [← hA, ← hB]
  clear hA hB h1 h2
  have hsA := bs_size A
  have hsB := bs_size B
  have HSG : Hid ((sg = [] ∧ bs sg = ⟨#[]⟩) ∨ (sg = [45] ∧ bs sg = ⟨#[45]⟩)) := by rcases hn with ⟨_, h, _⟩ | ⟨_, h, _⟩ <;> subst h <;> simp [bs, Hid]
  have hfinal : ∀ x : ByteArray, x = bs sg → (trim0 B = [] → Ending.returned (.string (x ++ bs A)) = .returned (.string (bs (sg ++ A ++ (if trim0 B = [] then [] else 46 :: trim0 B))))) ∧ (trim0 B ≠ [] → Ending.returned (.string (x ++ bs A ++ ⟨#[46]⟩ ++ bs (trim0 B))) = .returned (.string (bs (sg ++ A ++ (if trim0 B = [] then [] else 46 :: trim0 B))))) := by
    intro x hx
    subst hx
    constructor
    · intro h; rw [if_pos h, bs_append, List.append_nil]
    · intro h; rw [if_neg h, show (⟨#[46]⟩ : ByteArray) = bs [46] from rfl, bs_append, bs_append, bs_append]; simp
  have HFIN : Hid _ := hfinal
  clear hfinal
  obtain ⟨P, hP⟩ : ∃ P, P = bs (sg ++ A ++ (if trim0 B = [] then [] else 46 :: trim0 B)) := ⟨_, rfl⟩
  rw [← hP]
  have HP : Hid (P = bs (sg ++ A ++ (if trim0 B = [] then [] else 46 :: trim0 B))) := hP
  clear hP
  rcases hn with ⟨rfl, hsg, h0⟩ | ⟨rfl, hsg, h0⟩
  all_goals
    have HX : Hid (bs sg = bs sg) := rfl
    go_enter Tryz.func54, Tryz.ntmps54
    go_wp2_with fail
    refine (digits_bs (m / 1000000) 1 w (by omega) (by omega) (by omega) rfl).mono ?_
    rintro e w1 ⟨rfl, rfl⟩
    rw [HA.out]
    go_wp2_with fail
    refine (digits_bs (m % 1000000) 6 w (by omega) (by omega) (by omega) rfl).mono ?_
    rintro e w2 ⟨rfl, rfl⟩
    rw [HBB.out]
    go_wp2_with fail
    go_loopg [4] B.length (fun g pv wr => w = wr ∧ ∃ acc : List UInt8, pv = .string (bs acc) ∧ acc.length = g ∧ acc.length ≤ 40 ∧ trim0 acc = trim0 B)
    case atStart => exact ⟨rfl, B, rfl, rfl, hBl, rfl⟩
    case round =>
      obtain ⟨rfl, acc, rfl, hag, hal, htr⟩ := hrel
      have HTR : Hid (trim0 acc = trim0 B) := htr
      have HAG : Hid (acc.length = gk) := hag
      have hsz := bs_size acc
      clear htr hag
      rcases snoc_cases acc with rfl | ⟨init, c, rfl⟩
      · have HF : Hid (trim0 B = []) := HTR.out.symm.trans trim0_nil
        have he : (bs []).toList.isEmpty = true := by rw [Go.ByteArray.toList_eq, bs_toList]; rfl
        go_wp2
        go_ret
        refine ⟨?_, rfl⟩
        rw [HP.out]
        exact (HFIN.out _ (by rw [hsg]; rfl)).1 HF.out
      · have hlen : (init ++ [c]).length = init.length + 1 := by simp
        rw [hlen] at hsz hal
        have hi : init.length < (bs (init ++ [c])).size := by omega
        have hget : (bs (init ++ [c]))[init.length]'hi = c := by rw [bs_get]; simp
        by_cases hc : c = 48
        · subst hc
          have HN : Hid (trim0 init = trim0 B) := (trim0_snoc_yes init).symm.trans HTR.out
          have hb48 : ((48 : UInt8).toNat : Int) = 48 := rfl
          go_wp2
          go_roundg init.length
          case measure => rw [← HAG.out]; simp
          case rel => exact ⟨rfl, init, congrArg Value.string (bs_init init 48), rfl, by omega, HN.out⟩
        · have HF : Hid (trim0 B = init ++ [c]) := HTR.out.symm.trans (trim0_snoc_no init c hc)
          have hcn : ((c.toNat : Int) == 48) = false := by
            rw [beq_eq_false_iff_ne]; intro e; apply hc; apply UInt8.toNat.inj; have : c.toNat = 48 := by omega
            exact this
          have he : (bs (init ++ [c])).toList.isEmpty = false := by rw [Go.ByteArray.toList_eq, bs_toList]; simp
          go_wp2
          go_ret
          refine ⟨?_, rfl⟩
          rw [HP.out, HF.out]
          have := (HFIN.out _ (show _ = bs sg by rw [hsg])).2 (by rw [HF.out]; simp)
          rw [HF.out] at this
          exact this

theorem decimal_any (n : Int) (w : World) (h1 : -1000000000000000000 ≤ n) (h2 : n ≤ 1000000000000000000) :
    Calls Tryz.prog 54 #[.int .i64 n] w fun e w' => e = .returned (.string (bs (decB n))) ∧ w = w' := by
  unfold decB
  by_cases h : n < 0
  · rw [if_pos h]; exact decimal_pos [45] n.natAbs n w (by omega) (Or.inr ⟨by omega, rfl, h⟩)
  · rw [if_neg h]; exact decimal_pos [] n.natAbs n w (by omega) (Or.inl ⟨by omega, rfl, by omega⟩)

end Go.Proofs.YtjaoocincdoaaaaGreatDoor
