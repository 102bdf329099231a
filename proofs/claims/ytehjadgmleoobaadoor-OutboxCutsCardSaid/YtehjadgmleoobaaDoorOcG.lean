/-
  the law OutboxCuts: its walk.
-/
import Derived.Test.YtehjadgmleoobaaDoorOcF
namespace Go.Proofs.YtehjadgmleoobaaDoor
open Go Go.RowKit
open Sha

theorem take_all {α : Type} (l : List α) (n : Nat) (h : n = l.length) : l.take n = l := List.take_of_length_le (by omega)
theorem pk_nat (c : Int) (N : Nat) : ∃ nn : Nat, pk c ((N : Int) + 1) = (nn : Int) ∧ nn ≤ N := by
  have h := pk_range c ((N : Int) + 1) (by omega)
  exact ⟨(pk c ((N : Int) + 1)).toNat, by omega, by omega⟩
set_option maxRecDepth 100000 in
set_option maxHeartbeats 4000000 in
theorem cuts_walk (rs0 rs2 : List Rwv) (A0 A2 : Option Addr) (n0 c0 n2 c2 : Nat) (hn0 : n0 = rs0.length) (hc0 : n0 ≤ c0) (hn2 : n2 = rs2.length) (hc2 : n2 ≤ c2) (sz : Int) (hz0 : -9223372036854775808 ≤ sz) (hz1 : sz ≤ 9223372036854775807) (w : World) (hT : Tab w 2) (h0 : Ra w A0 rs0) (h2 : Ra w A2 rs2) :
    Calls Tryd.prog 4 #[.slice A0 n0 c0, .int .i64 sz, .slice A2 n2 c2] w fun e w' => e = .returned (.bool true) ∧ Below w.heap.size w w' := by
  obtain ⟨l, hl⟩ : ∃ l, l = rs0.take 200 := ⟨_, rfl⟩
  obtain ⟨m, hm⟩ : ∃ m, m = rs2.take 200 := ⟨_, rfl⟩
  obtain ⟨N, hN⟩ : ∃ N, N = l.length := ⟨_, rfl⟩
  obtain ⟨M, hM⟩ : ∃ M, M = m.length := ⟨_, rfl⟩
  obtain ⟨nn, hnn, hnN⟩ := pk_nat sz N
  have hN2 : N ≤ 200 := by rw [hN, hl, List.length_take]; omega
  have hM2 : M ≤ 200 := by rw [hM, hm, List.length_take]; omega
  have HF0 : Hid (Calls Tryd.prog 9 #[.slice A0 n0 c0] w fun e w' => e = .returned (.slice A0 N c0) ∧ w' = w) := few_any rs0 A0 n0 c0 hn0 hc0 N (by rw [hN, hl]) w h0
  have HF2 : Hid (Calls Tryd.prog 9 #[.slice A2 n2 c2] w fun e w' => e = .returned (.slice A2 M c2) ∧ w' = w) := few_any rs2 A2 n2 c2 hn2 hc2 M (by rw [hM, hm]) w h2
  have HL : Hid (Ra w A0 l) := by rw [hl]; exact h0.take 200
  have HM : Hid (Ra w A2 m) := by rw [hm]; exact h2.take 200
  have HB0 : Hid (Calls Tryd.prog 10 #[.slice A0 N c0] w fun e w' => ∃ B v, e = .returned (.pointer (some ⟨B, 0, none⟩)) ∧ Bk w w' B v (bts l)) := booked_any l A0 N c0 hN (by omega) w HL.out
  have HPK : Hid (∀ X, Calls Tryd.prog 11 #[.int .i64 sz, .int .i64 ((N : Int) + 1)] X fun e w' => e = .returned (.int .i64 (nn : Int)) ∧ w' = X) := fun X => by rw [← hnn]; exact pick11 sz ((N : Int) + 1) (by omega) hz0 hz1 (by omega) X
  have HNl : Hid (N = l.length) := hN
  have HMl : Hid (M = m.length) := hM
  have HOL : Hid (∀ r ∈ l, r.Ok) := HL.out.ok
  have HOM : Hid (∀ r ∈ m, r.Ok) := HM.out.ok
  have HT : Hid (Tab w 2) := hT
  clear hl hm hN hM hnn hn0 hc0 hn2 hc2 hz0 hz1 hT h0 h2
  go_enter Tryd.func4, Tryd.ntmps4
  go_upto_region 2 with (go_at_call 9; refine Calls.mono HF0.out ?_; rintro e X ⟨rfl, hq⟩; obtain rfl := hq.symm)
  go_upto_region 3 with (go_at_call 9; refine Calls.mono HF2.out ?_; rintro e X ⟨rfl, hq⟩; obtain rfl := hq.symm)
  clear HF0 HF2
  go_upto_region 4 with (go_at_call 10; refine Calls.mono HB0.out ?_; rintro e X1 ⟨Ba, va, rfl, q⟩; have K1 : Hid (Bk w X1 Ba va (bts l)) := q; clear q)
  clear HB0
  go_upto_region 7 with (go_at_call 11; refine Calls.mono (HPK.out X1) ?_; rintro e X ⟨rfl, hq⟩; obtain rfl := hq.symm)
  clear HPK
  go_loopw [11, 12] (fun v k wr => ∃ t : Nat, t ≤ nn ∧ k = .int .i64 (t : Int) ∧ ∃ A cap, v = .slice A t cap ∧ Hid (Lw wr 46 26 (.slice A t cap) t ((l.take t).flatMap rwc)) ∧ Hid (∀ g, (Value.slice A t cap).ownBlock = some g → w.heap.size ≤ g) ∧ Hid (Bk w wr Ba va (bts l))) (fun _ k _ => nn - (intOf k).toNat)
  case atStart => exact ⟨0, Nat.zero_le _, rfl, none, 0, rfl, Lw.nil _ _ _, (fun g e => by cases e), K1.out⟩
  case round =>
    obtain ⟨t, ht, rfl, A, cap, rfl, HLW, HV0, HK⟩ := hrel
    clear K1
    by_cases hlt : t < nn
    · obtain ⟨r, hr⟩ : ∃ r, l[t]? = some r := ⟨_, List.getElem?_eq_getElem (by rw [← HNl.out]; omega)⟩
      obtain ⟨hok, b, o, rfl, hrg⟩ := (HL.out.be HK.out.be) t r hr
      obtain ⟨R, hR⟩ : ∃ R, R = rwc r := ⟨_, rfl⟩
      rw [← hR] at hrg
      have HG : Hid (wr.rangeAt b (o + t * 26) R) := hrg
      have HR26 : Hid (R.length = 26) := by rw [hR]; exact rwc_len hok
      have HI : Hid ((Tryd.prog.info? 46).map (·.size) = some R.length) := by show _ = _; rw [HR26.out]; exact info_raw
      have HO : Hid (∀ u ∈ R, u.oneCell' = true) := by rw [hR]; exact rwc_one r
      have HTK : Hid ((l.take (t + 1)).flatMap rwc = (l.take t).flatMap rwc ++ R) := by show _ = _; rw [take_snoc l t r hr, List.flatMap_append, hR]; simp
      have hlN : t < N := by omega
      clear hR hr hok hrg
      go_wp2_with (first
        | (refine wpList_load_w rfl 46 (.tmp 48) rfl b (o + t * 26) rfl R _ HG.out Tryd.underlying46 rfl HI.out ?_; simp only [Act.put, List.setIfInBounds_toArray, List.set_cons_zero, List.set_cons_succ])
        | (refine wpList_buildRaw rfl (.tmp 49) rfl R HR26.out rfl ?_; intro X4 q1 q2; have R4 : Hid (Row X4 wr.heap.size R 46) := q1; have D4 : Hid (Below wr.heap.size wr X4) := q2; clear q1 q2; simp only [Act.put, List.setIfInBounds_toArray, List.set_cons_zero, List.set_cons_succ])
        | (refine wpList_appL 40 46 26 72 Tryd.underlying40 info_raw_open (by decide) (by decide) rfl (.tmp 45) (.tmp 50) rfl (.slice A t cap) t ((l.take t).flatMap rwc) R rfl (Lw.be HLW.out D4.out) wr.heap.size HR26.out rfl R4.out.all HO.out (by omega) ?_; intro v5 X5 q1 q2 q3; rw [← HTK.out] at q1; have L5 : Hid (Lw X5 46 26 v5 (t + 1) ((l.take (t + 1)).flatMap rwc)) := q1; have K5 : Hid (Bk w X5 Ba va (bts l)) := (HK.out.keep D4.out).app (Lw.be HLW.out D4.out) q2 HV0.out; have V5 : Hid (∀ g, v5.ownBlock = some g → w.heap.size ≤ g) := (fun g e => by rcases q3 with q3 | q3; exact HV0.out g (by rw [← q3]; exact e); rw [q3] at e; cases e; exact Nat.le_trans HK.out.be.size D4.out.size); clear q1 q2 q3; obtain ⟨A5, c5, e5, _, _⟩ := Lw.form L5.out; subst e5; simp only [Act.put, List.setIfInBounds_toArray, List.set_cons_zero, List.set_cons_succ]))
      refine ⟨⟨t + 1, hlt, by go_num, A5, c5, rfl, L5, V5, K5⟩, by simp [intOf]; omega⟩
    · obtain rfl : t = nn := by omega
      clear hlt ht
      go_upto_region 11 with fail
      go_loopw [11, 13] (fun v k wr => ∃ s q : Nat, s ≤ M ∧ q ≤ 400 ∧ k = .int .i64 (s : Int) ∧ ∃ A cap, v = .slice A q cap ∧ Hid (q = t + s) ∧ Hid (Lw wr 46 26 (.slice A q cap) q ((l.take t ++ m.take s).flatMap rwc)) ∧ Hid (∀ g, (Value.slice A q cap).ownBlock = some g → w.heap.size ≤ g) ∧ Hid (Bk w wr Ba va (bts l))) (fun _ k _ => M - (intOf k).toNat)
      case atStart => exact ⟨0, t, Nat.zero_le _, by omega, rfl, A, cap, rfl, rfl, (by have := HLW.out; rw [List.take_zero, List.append_nil]; exact this), HV0, HK⟩
      case round =>
        obtain ⟨s, q, hs, hq4, rfl, A3, c3, rfl, HQ, HLW3, HV3, HK3⟩ := hrel
        clear HLW HV0 HK
        by_cases hlt : s < M
        · obtain ⟨r, hr⟩ : ∃ r, m[s]? = some r := ⟨_, List.getElem?_eq_getElem (by rw [← HMl.out]; omega)⟩
          obtain ⟨hok, b, o, rfl, hrg⟩ := (HM.out.be HK3.out.be) s r hr
          obtain ⟨R, hR⟩ : ∃ R, R = rwc r := ⟨_, rfl⟩
          rw [← hR] at hrg
          have HG : Hid (wr.rangeAt b (o + s * 26) R) := hrg
          have HR26 : Hid (R.length = 26) := by rw [hR]; exact rwc_len hok
          have HI : Hid ((Tryd.prog.info? 46).map (·.size) = some R.length) := by show _ = _; rw [HR26.out]; exact info_raw
          have HO : Hid (∀ u ∈ R, u.oneCell' = true) := by rw [hR]; exact rwc_one r
          have HTK : Hid ((l.take t ++ m.take (s + 1)).flatMap rwc = (l.take t ++ m.take s).flatMap rwc ++ R) := by show _ = _; rw [take_snoc m s r hr, ← List.append_assoc, List.flatMap_append (xs := l.take t ++ m.take s), hR]; simp
          clear hR hr hok hrg
          go_wp2_with (first
            | (refine wpList_load_w rfl 46 (.tmp 61) rfl b (o + s * 26) rfl R _ HG.out Tryd.underlying46 rfl HI.out ?_; simp only [Act.put, List.setIfInBounds_toArray, List.set_cons_zero, List.set_cons_succ])
            | (refine wpList_buildRaw rfl (.tmp 62) rfl R HR26.out rfl ?_; intro X4 q1 q2; have R4 : Hid (Row X4 wr.heap.size R 46) := q1; have D4 : Hid (Below wr.heap.size wr X4) := q2; clear q1 q2; simp only [Act.put, List.setIfInBounds_toArray, List.set_cons_zero, List.set_cons_succ])
            | (refine wpList_appL 40 46 26 72 Tryd.underlying40 info_raw_open (by decide) (by decide) rfl (.tmp 58) (.tmp 63) rfl (.slice A3 q c3) q ((l.take t ++ m.take s).flatMap rwc) R rfl (Lw.be HLW3.out D4.out) wr.heap.size HR26.out rfl R4.out.all HO.out (by omega) ?_; intro v5 X5 q1 q2 q3; rw [← HTK.out] at q1; have L5 : Hid (Lw X5 46 26 v5 (q + 1) ((l.take t ++ m.take (s + 1)).flatMap rwc)) := q1; have K5 : Hid (Bk w X5 Ba va (bts l)) := (HK3.out.keep D4.out).app (Lw.be HLW3.out D4.out) q2 HV3.out; have V5 : Hid (∀ g, v5.ownBlock = some g → w.heap.size ≤ g) := (fun g e => by rcases q3 with q3 | q3; exact HV3.out g (by rw [← q3]; exact e); rw [q3] at e; cases e; exact Nat.le_trans HK3.out.be.size D4.out.size); clear q1 q2 q3; obtain ⟨A5, c5, e5, _, _⟩ := Lw.form L5.out; subst e5; simp only [Act.put, List.setIfInBounds_toArray, List.set_cons_zero, List.set_cons_succ]))
          refine ⟨⟨s + 1, q + 1, hlt, by have := HQ.out; omega, by go_num, A5, c5, rfl, (by have := HQ.out; show _ = _; omega), L5, V5, K5⟩, by simp [intOf]; omega⟩
        · obtain rfl : s = M := by omega
          clear hlt hs
          obtain ⟨left, hleft⟩ : ∃ left, left = l.take t ++ m := ⟨_, rfl⟩
          have HLF : Hid (left = l.take t ++ m) := hleft
          have HLM : Hid (l.take t ++ m.take s = left) := by show _ = _; rw [hleft, take_all m s HMl.out]
          have hql : q = left.length := by rw [hleft, List.length_append, List.length_take, ← HNl.out, ← HMl.out, HQ.out]; omega
          have HQL : Hid (q = left.length) := hql
          have HOL2 : Hid (∀ r ∈ left, r.Ok) := by rw [hleft]; intro r hr; rcases List.mem_append.1 hr with h | h; exact HOL.out r (List.mem_of_mem_take h); exact HOM.out r h
          rw [HLM.out] at HLW3
          have HBL : Hid (Calls Tryd.prog 10 #[.slice A3 q c3] wr fun e w' => ∃ B v, e = .returned (.pointer (some ⟨B, 0, none⟩)) ∧ Bk wr w' B v (bts left)) := booked_any left A3 q c3 hql (by omega) wr (Lw.ra HLW3.out HOL2.out hql)
          clear hleft hql HLW3 HV3
          go_upto_region 15 with (go_at_call 10; refine Calls.mono HBL.out ?_; rintro e X2 ⟨Bb, vb, rfl, p⟩; have KB : Hid (Bk w X2 Bb vb (bts left)) := p.down HK3.out.be; have KA : Hid (Bk w X2 Ba va (bts l)) := HK3.out.keep p.be; have HBB : Hid (Bb ≠ Ba) := (fun e => by have h1 := HK3.out.row.lt; have h2 := p.b0; rw [e] at h2; omega); have HVV : Hid (∀ g, va.ownBlock = some g → vb.ownBlock ≠ some g) := (fun g e e2 => by have h1 := HK3.out.vlt g e; have h2 := p.v0 g e2; omega); clear p)
          clear HBL HK3
          have HKN : Hid (∀ X, Calls Tryd.prog 5 #[] X fun e w' => e = .returned (.bool true) ∧ Below X.heap.size X w') := fun X => obk_any X
          have HC1 : Hid (∀ X, Bk w X Ba va (bts l) → Calls Tryd.prog 12 #[.pointer (some ⟨Ba, 0, none⟩), .int .i64 ((N : Int) + 1)] X fun e w' => e = .returned (.int .i64 112) ∧ w' = X) := fun X h => cut_no w Ba va (bts l) (by rw [bts_len, ← HNl.out]; omega) _ (.inr (by rw [bts_len, ← HNl.out]; omega)) X h
          have HC2 : Hid (∀ X, Bk w X Ba va (bts l) → Calls Tryd.prog 12 #[.pointer (some ⟨Ba, 0, none⟩), .int .i64 (-1)] X fun e w' => e = .returned (.int .i64 112) ∧ w' = X) := fun X h => cut_no w Ba va (bts l) (by rw [bts_len, ← HNl.out]; omega) _ (.inl (by omega)) X h
          have HC3 : Hid (∀ X, Bk w X Ba va (bts l) → Bk w X Bb vb (bts left) → Calls Tryd.prog 12 #[.pointer (some ⟨Ba, 0, none⟩), .int .i64 (t : Int)] X fun e w' => e = .returned (.int .i64 0) ∧ ∃ A4 c4, Bk w w' Ba (.slice A4 t c4) (bts (l.take t ++ m.take 0)) ∧ Bk w w' Bb vb (bts left) ∧ ∀ g, (Value.slice A4 t c4).ownBlock = some g → vb.ownBlock ≠ some g) := fun X h hB => by
            refine (cut_ok w Ba va (bts l) (by rw [bts_len, ← HNl.out]; omega) t (by rw [bts_len, ← HNl.out]; exact hnN) X h).mono ?_
            rintro e w' ⟨p1, v', p2, p3, p4⟩
            rw [bts_take] at p2
            obtain ⟨A4, c4, e4⟩ := p2.form
            rw [bts_len, List.length_take, ← HNl.out, Nat.min_eq_left hnN] at e4
            subst e4
            exact ⟨p1, A4, c4, by rw [List.take_zero, List.append_nil]; exact p2, hB.beside h p3 HBB.out HVV.out, fun g e => HVV.out g (by rw [← p4]; exact e)⟩
          go_upto_region 18 with (first
            | (go_at_call 5; refine Calls.mono (HKN.out X2) ?_; rintro e X3 ⟨rfl, p⟩; have KA3 : Hid (Bk w X3 Ba va (bts l)) := KA.out.keep p; have KB3 : Hid (Bk w X3 Bb vb (bts left)) := KB.out.keep p; clear p HKN KA KB)
            | (go_at_call 12; refine Calls.mono (HC1.out X3 KA3.out) ?_; clear HC1; rintro e X ⟨rfl, hq⟩; obtain rfl := hq.symm)
            | (go_at_call 12; refine Calls.mono (HC2.out X3 KA3.out) ?_; clear HC2; rintro e X ⟨rfl, hq⟩; obtain rfl := hq.symm)
            | (go_at_call 12; refine Calls.mono (HC3.out X3 KA3.out KB3.out) ?_; clear HC3; rintro e X4 ⟨rfl, A4, c4, p1, p2, p3⟩; have cB := p1.row.cell 0 _ rfl; have KA4 : Hid (Bk w X4 Ba (.slice A4 t c4) (bts (l.take t ++ m.take 0))) := p1; have KB4 : Hid (Bk w X4 Bb vb (bts left)) := p2; have HV4 : Hid (∀ g, (Value.slice A4 t c4).ownBlock = some g → vb.ownBlock ≠ some g) := p3; clear p1 p2 p3 KA3 KB3)
            | (go_at_call 13; refine Calls.mono (len_any A4 t c4 X4) ?_; rintro e X ⟨rfl, hq⟩; obtain rfl := hq.symm))
          clear cB HVV
          go_loopw [15] (fun k wr => ∃ i : Nat, i ≤ s ∧ k = .int .i64 (i : Int) ∧ ∃ vx, Hid (Bk w wr Ba vx (bts (l.take t ++ m.take i))) ∧ Hid (Bk w wr Bb vb (bts left)) ∧ Hid (∀ g, vx.ownBlock = some g → vb.ownBlock ≠ some g)) (fun k _ => s - (intOf k).toNat)
          case atStart => exact ⟨0, Nat.zero_le _, rfl, _, KA4, KB4, HV4⟩
          case round =>
            obtain ⟨i, hi, rfl, vx, HKA, HKB, HVX⟩ := hrel
            clear KA4 KB4 HV4
            by_cases hlt : i < s
            · obtain ⟨r, hr⟩ : ∃ r, m[i]? = some r := ⟨_, List.getElem?_eq_getElem (by rw [← HMl.out]; omega)⟩
              obtain ⟨hok, b, o, rfl, hrg⟩ := (HM.out.be HKA.out.be) i r hr
              obtain ⟨R, hR⟩ : ∃ R, R = rwc r := ⟨_, rfl⟩
              obtain ⟨Lr, hLr⟩ : ∃ Lr, Lr = rwl r (t + i) := ⟨_, rfl⟩
              rw [← hR] at hrg
              have HG : Hid (wr.rangeAt b (o + i * 26) R) := hrg
              have HI : Hid ((Tryd.prog.info? 46).map (·.size) = some R.length) := by show _ = _; rw [hR, rwc_len hok]; exact info_raw
              have HLV : Hid (∀ X, Calls Tryd.prog 15 #[.agg R.toArray, .int .i64 ((t : Int) + (i : Int))] X fun e w' => e = .returned (.agg Lr.toArray) ∧ Below X.heap.size X w') := fun X => by
                have h := rleaf_any r hok (t + i) R hR X
                rw [Int.natCast_add] at h
                rw [hLr]
                exact h
              have HPU : Hid (∀ X, Bk w X Ba vx (bts (l.take t ++ m.take i)) → Bk w X Bb vb (bts left) → Calls Tryd.prog 14 #[.pointer (some ⟨Ba, 0, none⟩), .agg Lr.toArray] X fun e w' => e = .returned (.int .i64 0) ∧ ∃ v', Bk w w' Ba v' (bts (l.take t ++ m.take (i + 1))) ∧ Bk w w' Bb vb (bts left) ∧ ∀ g, v'.ownBlock = some g → vb.ownBlock ≠ some g) := fun X h hB => by
                have e1 : (l.take t ++ m.take i).length = t + i := by rw [List.length_append, List.length_take, List.length_take, ← HNl.out, ← HMl.out]; omega
                refine (put_rw w Ba vx (l.take t ++ m.take i) r hok (by omega) (t + i) e1.symm Lr hLr X h).mono ?_
                rintro e w' ⟨p1, v', p2, p3, p4⟩
                rw [List.append_assoc, ← take_snoc m i r hr] at p2
                refine ⟨p1, v', p2, hB.beside h p3 HBB.out HVX.out, fun g e => ?_⟩
                rcases p4 with p4 | ⟨g', p4, p5⟩
                · exact HVX.out g (by rw [← p4]; exact e)
                · rw [p4] at e; cases e
                  intro e2
                  have := hB.vlt g e2
                  omega
              have hib : i ≤ 200 := by omega
              have htb : t ≤ 200 := by omega
              clear hR hLr hr hok hrg
              go_wp2_with (first
                | (refine wpList_load_w rfl 46 (.tmp 114) rfl b (o + i * 26) rfl R _ HG.out Tryd.underlying46 rfl HI.out ?_; simp only [Act.put, List.setIfInBounds_toArray, List.set_cons_zero, List.set_cons_succ])
                | (go_at_call 15; refine Calls.mono (HLV.out wr) ?_; rintro e X6 ⟨rfl, p⟩; have KA6 : Hid (Bk w X6 Ba vx (bts (l.take t ++ m.take i))) := HKA.out.keep p; have KB6 : Hid (Bk w X6 Bb vb (bts left)) := HKB.out.keep p; clear p)
                | (go_at_call 14; refine Calls.mono (HPU.out X6 KA6.out KB6.out) ?_; rintro e X7 ⟨rfl, v7, p1, p2, p3⟩; have KA7 : Hid (Bk w X7 Ba v7 (bts (l.take t ++ m.take (i + 1)))) := p1; have KB7 : Hid (Bk w X7 Bb vb (bts left)) := p2; have HV7 : Hid (∀ g, v7.ownBlock = some g → vb.ownBlock ≠ some g) := p3; clear p1 p2 p3))
              refine ⟨⟨i + 1, hlt, by go_num, v7, KA7, KB7, HV7⟩, by simp [intOf]; omega⟩
            · obtain rfl : i = s := by omega
              have HKA2 : Hid (Bk w wr Ba vx (bts left)) := by have := HKA.out; rw [HLM.out] at this; exact this
              have HTS : Hid ((bts left).length = q) := by show _ = _; rw [bts_len, ← HQL.out]
              have HEA : Hid (∀ j, ((bts left).getD j []).length ≤ 153) := bts_each left HOL2.out
              have HLQ : Hid (left.length ≤ 400) := by rw [← HQL.out]; exact hq4
              clear hlt hi HKA HVX HL HM HOL HOM HLM HBB HMl HNl
              obtain ⟨ts, hts⟩ : ∃ ts, ts = bts left := ⟨_, rfl⟩
              have HTB : Hid (ts = bts left) := hts
              rw [← hts] at HKA2 HKB HTS HEA
              clear hts
              go_upto_region 23 with fail
              go_loopw [16, 17, 18, 19, 20, 21, 22, 23, 24, 25, 26, 27, 28] (fun k _ _ _ _ _ _ _ _ _ _ _ _ wr => ∃ j : Nat, j ≤ q + 1 ∧ k = .int .i64 (j : Int) ∧ Hid (Bk w wr Ba vx ts) ∧ Hid (Bk w wr Bb vb ts)) (fun k _ _ _ _ _ _ _ _ _ _ _ _ _ => q + 1 - (intOf k).toNat)
              case atStart => exact ⟨0, Nat.zero_le _, rfl, HKA2, HKB⟩
              case round =>
                obtain ⟨j, hj, rfl, HXA, HXB⟩ := hrel
                clear HKA2 HKB
                by_cases hlt : j ≤ q
                · obtain ⟨dd, hdd⟩ : ∃ dd, dd = rt (ts.take j) := ⟨_, rfl⟩
                  have h32 : dd.length = 32 := by rw [hdd]; exact rt_length _
                  have HD32 : Hid (dd.length = 32) := h32
                  have HRO : Hid (∀ X B v, Bk w X B v ts → Calls Tryd.prog 16 #[.pointer (some ⟨B, 0, none⟩), .int .i64 (j : Int)] X fun e w' => e = .returned (.tuple #[.agg (vB dd).toArray, .int .i64 0]) ∧ Below X.heap.size X w') := fun X B v h => root_bk w B v ts (by rw [HTS.out]; omega) HEA.out j (by rw [HTS.out]; exact hlt) dd hdd X (HT.out.below h.be HT.out.lt) h
                  have HID : Hid ((Tryd.prog.info? 25).map (·.size) = some (vB dd).length) := info_dg11 dd h32
                  have HLD : Hid ((vB dd).length = (vB (List.replicate 32 0#8)).length) := by show _ = _; rw [vB_length, vB_length, h32]; rfl
                  have hqb : q ≤ 400 := hq4
                  clear hdd h32
                  go_upto_region 26 with (first
                    | (go_at_call 16; refine Calls.mono (HRO.out wr Ba vx HXA.out) ?_; rintro e Y1 ⟨rfl, p⟩; have A1 : Hid (Bk w Y1 Ba vx ts) := HXA.out.keep p; have B1 : Hid (Bk w Y1 Bb vb ts) := HXB.out.keep p; clear p)
                    | (refine wpList_allocDg rfl rfl ?_; intro Y2 p1 p2; have R2 : Hid (Row Y2 Y1.heap.size (vB (List.replicate 32 0#8)) 25) := p1; have B2 : Hid (Below Y1.heap.size Y1 Y2) := p2; clear p1 p2; simp only [Act.put, List.setIfInBounds_toArray, List.set_cons_zero, List.set_cons_succ])
                    | (refine wpList_storeL rfl 25 (.tmp 17) (.tmp 132) rfl Y1.heap.size (vB dd) (vB (List.replicate 32 0#8)) 25 rfl rfl R2.out HLD.out HID.out (vB_all11 dd) ?_; intro Y3 p1 p2; have R3 : Hid (Row Y3 Y1.heap.size (vB dd) 25) := p2; have p3 : Below Y1.heap.size Y1 Y3 := (by rw [p1]; exact below_setCells B2.out (Nat.le_refl _) _); have A3 : Hid (Bk w Y3 Ba vx ts) := A1.out.keep p3; have B3 : Hid (Bk w Y3 Bb vb ts) := B1.out.keep p3; clear p1 p2 p3; simp only [Act.put]))
                  obtain ⟨y1, hy1⟩ : ∃ y1, y1 = Y1.heap.size := ⟨_, rfl⟩
                  rw [← hy1] at R3 ⊢
                  clear hy1 R2 B2 A1 B1 HXA HXB
                  go_upto_region 27 with (first
                    | (go_at_call 16; refine Calls.mono (HRO.out Y3 Bb vb B3.out) ?_; rintro e Y4 ⟨rfl, p⟩; have A4 : Hid (Bk w Y4 Ba vx ts) := A3.out.keep p; have B4 : Hid (Bk w Y4 Bb vb ts) := B3.out.keep p; have R4 : Hid (Row Y4 y1 (vB dd) 25) := Row.below R3.out p R3.out.lt; clear p)
                    | (refine wpList_allocDg rfl rfl ?_; intro Y5 p1 p2; have R5 : Hid (Row Y5 Y4.heap.size (vB (List.replicate 32 0#8)) 25) := p1; have B5 : Hid (Below Y4.heap.size Y4 Y5) := p2; clear p1 p2; simp only [Act.put, List.setIfInBounds_toArray, List.set_cons_zero, List.set_cons_succ])
                    | (refine wpList_storeL rfl 25 (.tmp 19) (.tmp 138) rfl Y4.heap.size (vB dd) (vB (List.replicate 32 0#8)) 25 rfl rfl R5.out HLD.out HID.out (vB_all11 dd) ?_; intro Y6 p1 p2; have R6 : Hid (Row Y6 Y4.heap.size (vB dd) 25) := p2; have p3 : Below Y4.heap.size Y4 Y6 := (by rw [p1]; exact below_setCells B5.out (Nat.le_refl _) _); have A6 : Hid (Bk w Y6 Ba vx ts) := A4.out.keep p3; have B6 : Hid (Bk w Y6 Bb vb ts) := B4.out.keep p3; have R6a : Hid (Row Y6 y1 (vB dd) 25) := Row.below R4.out p3 R4.out.lt; clear p1 p2 p3; simp only [Act.put]))
                  obtain ⟨y4, hy4⟩ : ∃ y4, y4 = Y4.heap.size := ⟨_, rfl⟩
                  rw [← hy4] at R6 ⊢
                  clear hy4 R5 B5 A4 B4 R4 R3 A3 B3
                  go_upto_region 29 with (first
                    | (refine wpList_load_w rfl 25 (.tmp 17) rfl y1 (0) rfl (vB dd) _ R6a.out.all Tryd.underlying25 rfl HID.out ?_; simp only [Act.put, List.setIfInBounds_toArray, List.set_cons_zero, List.set_cons_succ])
                    | (refine wpList_load_w rfl 25 (.tmp 19) rfl y4 (0) rfl (vB dd) _ R6.out.all Tryd.underlying25 rfl HID.out ?_; simp only [Act.put, List.setIfInBounds_toArray, List.set_cons_zero, List.set_cons_succ])
                    | (refine wpList_neqDg rfl (.tmp 147) (.tmp 148) _ rfl dd HD32.out rfl rfl ?_; simp only [Act.put, List.setIfInBounds_toArray, List.set_cons_zero, List.set_cons_succ]))
                  clear R6 R6a HLD HID HRO HD32
                  by_cases hjq : j < q
                  · obtain ⟨r, hr⟩ : ∃ r, left[j]? = some r := ⟨_, List.getElem?_eq_getElem (by rw [← HQL.out]; exact hjq)⟩
                    have hok := HOL2.out r (List.mem_of_getElem? hr)
                    obtain ⟨Lr, hLr⟩ : ∃ Lr, Lr = rwl r j := ⟨_, rfl⟩
                    have HLE : Hid (∀ X B v, Bk w X B v ts → Calls Tryd.prog 17 #[.pointer (some ⟨B, 0, none⟩), .int .i64 (j : Int)] X fun e w' => e = .returned (.tuple #[.agg Lr.toArray, .int .i64 0]) ∧ Below X.heap.size X w') := fun X B v h => leaf_rw w B v left (by have := HLQ.out; omega) j r hr hok Lr hLr X (by rw [← HTB.out]; exact h)
                    obtain ⟨ds, hds⟩ : ∃ ds, ds = pt j ts := ⟨_, rfl⟩
                    have HPA : Hid (∀ X B v, Bk w X B v ts → Calls Tryd.prog 18 #[.pointer (some ⟨B, 0, none⟩), .int .i64 (j : Int), .int .i64 (q : Int)] X fun e w' => ∃ A cap, e = .returned (.tuple #[.slice A ds.length cap, .int .i64 0]) ∧ PAt w' (.slice A ds.length cap) ds ∧ Below X.heap.size X w') := fun X B v h => path_bk w B v ts (by rw [HTS.out]; omega) HEA.out j q HTS.out.symm hjq ds hds X (HT.out.below h.be HT.out.lt) h
                    have HNE : Hid (∀ w, (binOp .neq 32 (.agg Lr.toArray) (.agg Lr.toArray)).run Tryd.prog w = .ok (.bool false) w) := fun w => by rw [hLr]; exact neL _ _ _ _ _ hok.rc (am9_len hok.am) w
                    have HIL : Hid ((Tryd.prog.info? 32).map (·.size) = some Lr.length) := by rw [hLr]; exact info_lf hok.rc (am9_len hok.am)
                    have HLL : Hid (Lr.length = zLf.length) := by show _ = _; rw [hLr]; exact lf_len hok.rc (am9_len hok.am)
                    have HLO : Hid (Lr.toArray.all (·.oneCell') = true) := by rw [hLr]; exact lf_all
                    have HDL : Hid (ds.length ≤ 4398046511104) := by
                      show _ ≤ _
                      rw [hds, pt_length q j ts HTS.out (by omega) (by omega)]
                      have := pl_lt q j (by omega) (by omega)
                      omega
                    clear hLr hr hok hds
                    go_upto_region 31 with (first
                      | (go_at_call 17; refine Calls.mono (HLE.out Y6 Ba vx A6.out) ?_; rintro e Z1 ⟨rfl, p⟩; have A7 : Hid (Bk w Z1 Ba vx ts) := A6.out.keep p; have B7 : Hid (Bk w Z1 Bb vb ts) := B6.out.keep p; clear p)
                      | (refine wpList_allocLf rfl rfl ?_; intro Z2 p1 p2 p3; have R7 : Hid (Row Z2 Z1.heap.size zLf 32) := p1; have D7 : Hid (Below Z1.heap.size Z1 Z2) := p2; clear p1 p2 p3; simp only [Act.put, List.setIfInBounds_toArray, List.set_cons_zero, List.set_cons_succ])
                      | (refine wpList_storeL rfl 32 (.tmp 21) (.tmp 159) rfl Z1.heap.size Lr zLf 32 rfl rfl R7.out HLL.out HIL.out HLO.out ?_; intro Z3 p1 p2; have R8 : Hid (Row Z3 Z1.heap.size Lr 32) := p2; have p3 : Below Z1.heap.size Z1 Z3 := (by rw [p1]; exact below_setCells D7.out (Nat.le_refl _) _); have A8 : Hid (Bk w Z3 Ba vx ts) := A7.out.keep p3; have B8 : Hid (Bk w Z3 Bb vb ts) := B7.out.keep p3; clear p1 p2 p3; simp only [Act.put]))
                    obtain ⟨z1, hz1⟩ : ∃ z1, z1 = Z1.heap.size := ⟨_, rfl⟩
                    rw [← hz1] at R8 ⊢
                    clear hz1 R7 D7 A7 B7 A6 B6
                    go_upto_region 32 with (first
                      | (go_at_call 17; refine Calls.mono (HLE.out Z3 Bb vb B8.out) ?_; rintro e Z4 ⟨rfl, p⟩; have A9 : Hid (Bk w Z4 Ba vx ts) := A8.out.keep p; have B9 : Hid (Bk w Z4 Bb vb ts) := B8.out.keep p; have R9 : Hid (Row Z4 z1 Lr 32) := Row.below R8.out p R8.out.lt; clear p)
                      | (refine wpList_allocLf rfl rfl ?_; intro Z5 p1 p2 p3; have R10 : Hid (Row Z5 Z4.heap.size zLf 32) := p1; have D10 : Hid (Below Z4.heap.size Z4 Z5) := p2; clear p1 p2 p3; simp only [Act.put, List.setIfInBounds_toArray, List.set_cons_zero, List.set_cons_succ])
                      | (refine wpList_storeL rfl 32 (.tmp 23) (.tmp 165) rfl Z4.heap.size Lr zLf 32 rfl rfl R10.out HLL.out HIL.out HLO.out ?_; intro Z6 p1 p2; have R11 : Hid (Row Z6 Z4.heap.size Lr 32) := p2; have p3 : Below Z4.heap.size Z4 Z6 := (by rw [p1]; exact below_setCells D10.out (Nat.le_refl _) _); have A11 : Hid (Bk w Z6 Ba vx ts) := A9.out.keep p3; have B11 : Hid (Bk w Z6 Bb vb ts) := B9.out.keep p3; have R11a : Hid (Row Z6 z1 Lr 32) := Row.below R9.out p3 R9.out.lt; clear p1 p2 p3; simp only [Act.put]))
                    obtain ⟨z4, hz4⟩ : ∃ z4, z4 = Z4.heap.size := ⟨_, rfl⟩
                    rw [← hz4] at R11 ⊢
                    clear hz4 R10 D10 A9 B9 R9 R8 A8 B8
                    go_upto_region 33 with (go_at_call 18; refine Calls.mono (HPA.out Z6 Ba vx A11.out) ?_; rintro e Z7 ⟨Ap, cp, rfl, p1, p⟩; have P12 : Hid (PAt Z7 (.slice Ap ds.length cp) ds) := p1; have A12 : Hid (Bk w Z7 Ba vx ts) := A11.out.keep p; have B12 : Hid (Bk w Z7 Bb vb ts) := B11.out.keep p; have R12a : Hid (Row Z7 z1 Lr 32) := Row.below R11a.out p R11a.out.lt; have R12b : Hid (Row Z7 z4 Lr 32) := Row.below R11.out p R11.out.lt; clear p p1)
                    clear R11 R11a A11 B11
                    go_upto_region 34 with (go_at_call 18; refine Calls.mono (HPA.out Z7 Bb vb B12.out) ?_; rintro e Z8 ⟨Aq, cq, rfl, p1, p⟩; have Q13 : Hid (PAt Z8 (.slice Aq ds.length cq) ds) := p1; have P13 : Hid (PAt Z8 (.slice Ap ds.length cp) ds) := P12.out.below p; have A13 : Hid (Bk w Z8 Ba vx ts) := A12.out.keep p; have B13 : Hid (Bk w Z8 Bb vb ts) := B12.out.keep p; have R13a : Hid (Row Z8 z1 Lr 32) := Row.below R12a.out p R12a.out.lt; have R13b : Hid (Row Z8 z4 Lr 32) := Row.below R12b.out p R12b.out.lt; clear p p1)
                    clear P12 A12 B12 R12a R12b
                    obtain ⟨D0, hD0⟩ : ∃ D0, D0 = ds.length := ⟨_, rfl⟩
                    rw [← hD0] at Q13 P13 HDL ⊢
                    have HSP : Hid (Calls Tryd.prog 8 #[.slice Ap D0 cp, .slice Aq D0 cq] Z8 fun e w' => e = .returned (.bool true) ∧ Below Z8.heap.size Z8 w') := samePath_any ds D0 hD0.symm HDL.out Ap Aq cp cq Z8 P13.out Q13.out
                    clear hD0 Q13 P13 HDL
                    go_wp2_with (first
                      | (refine wpList_load_w rfl 32 (.tmp 21) rfl z1 (0) rfl Lr _ R13a.out.all Tryd.underlying32 rfl HIL.out ?_; simp only [Act.put, List.setIfInBounds_toArray, List.set_cons_zero, List.set_cons_succ])
                      | (refine wpList_load_w rfl 32 (.tmp 23) rfl z4 (0) rfl Lr _ R13b.out.all Tryd.underlying32 rfl HIL.out ?_; simp only [Act.put, List.setIfInBounds_toArray, List.set_cons_zero, List.set_cons_succ])
                      | (refine wpList_neqLf rfl (.tmp 198) (.tmp 199) _ rfl Lr rfl rfl HNE.out ?_; simp only [Act.put, List.setIfInBounds_toArray, List.set_cons_zero, List.set_cons_succ])
                      | (go_at_call 8; refine Calls.mono HSP.out ?_; rintro e Z9 ⟨rfl, p⟩; have A14 : Hid (Bk w Z9 Ba vx ts) := A13.out.keep p; have B14 : Hid (Bk w Z9 Bb vb ts) := B13.out.keep p; clear p))
                    refine ⟨⟨j + 1, by omega, by go_num, A14, B14⟩, by simp [intOf]; omega⟩
                  · obtain rfl : j = q := by omega
                    go_wp2_with fail
                    refine ⟨⟨j + 1, by omega, by go_num, A6, B6⟩, by simp [intOf]⟩
                · obtain rfl : j = q + 1 := by omega
                  obtain ⟨Ax, cx, ex⟩ := HXA.out.form
                  have cB : wr.cell? ⟨Ba, 0, none⟩ = some (.slice Ax q cx) := by have := HXA.out.row.cell 0 _ rfl; rw [ex, HTS.out] at this; exact this
                  have HBE : Hid (Below w.heap.size w wr) := HXA.out.be
                  clear ex HXA HXB
                  go_wp2_with (go_at_call 13; refine Calls.mono (len_any Ax q cx wr) ?_; rintro e X ⟨rfl, hq⟩; obtain rfl := hq.symm)
                  go_ret
                  exact ⟨rfl, HBE.out⟩

end Go.Proofs.YtehjadgmleoobaaDoor
