/-
  The contract of walk's Put (layer 10) over this seat's translation. Conditions: the tokens of an item of at most 6,000 bytes and 1,200 items.
-/
import Derived.Test.YtegakecncpfnnaaWlkZ
import Derived.Test.YtegakecncpfnnaaItmBw
namespace Go.Proofs.Ytegakecncpfnnaa
open Go.RowKit

theorem Bd.bel {B b : Nat} {l : List UInt8} {w w' : World} (h : Bd B b l w) (f : Below w.heap.size w w') : Bd B b l w' := by
  have ff : Fr (fun _ => False) w w' := Fr.ofBelow f
  rcases h with ⟨hB, v, hb, hown, hne⟩ | ⟨hB, v, hb, hown, hne⟩
  · exact .inl ⟨hB, v, (f.block b (lt_of_block hb)).trans hb, own_keep hown ff (fun _ _ e => e), hne⟩
  · exact .inr ⟨hB, v, (f.block b (lt_of_block hb)).trans hb, own_keep hown ff (fun _ _ e => e), hne⟩
mutual
theorem wth_le : ∀ (t : T) (m : Nat), m ∈ T.wth t → m ≤ (T.put t).length
  | .mk s l ts, m, hm => by
    cases l
    · rw [T.wth_text, List.mem_singleton] at hm; omega
    · rw [T.wth_list, List.mem_cons, List.mem_append, List.mem_singleton] at hm
      rw [T.put_list, List.length_append]
      rcases hm with h | h | h
      · omega
      · have := wths_le ts m h; omega
      · omega
theorem wths_le : ∀ (ts : List T) (m : Nat), m ∈ T.wths ts → m ≤ (T.puts ts).length
  | [], _, hm => absurd hm List.not_mem_nil
  | t :: r, m, hm => by
    rw [T.wths, List.mem_append] at hm
    rw [T.puts, List.length_append]
    rcases hm with h | h
    · have := wth_le t m h; omega
    · have := wths_le r m h; omega
end
theorem put_word (s : ByteArray) (hs : s.size ≤ 6000) (w : World) :
    Calls Try.prog 35 #[.agg #[.string s, .bool false, .slice none 0 0]] w fun e w' => e = .returned (.tuple #[.string (bs (ptx s.data.toList)), .int .i64 0]) ∧ Below w.heap.size w w' := by
  have h := putOf_ok (.mk s false []) (.slice none 0 0) w ⟨by unfold maxLen; omega, by unfold maxLen; simp, none, 0, rfl, Nat.le_refl _, trivial⟩ (by simp [T.may, T.rgt, T.own, T.rgts, T.dep, T.deps, T.cnt, T.cnts]) (by simp [T.siz, T.sizs]; exact hs) (by simp [T.cnt, T.cnts])
  rw [T.put_text] at h
  exact h

set_option maxRecDepth 100000 in
theorem put_no (l : List Tok) (v : Value) (w : World) (hl : TSl w v l) (hn : l.length ≤ 10000) (hm : mayk l = false) :
    Calls Try.prog 10 #[v] w fun e w' => e = .returned (.tuple #[.string ⟨#[]⟩, .int .i64 3]) ∧ Below w.heap.size w w' := by
  have MK := Lib.hid (mayk_any l v w hl (by omega))
  rw [hm] at MK
  obtain ⟨a, c, rfl, _⟩ := hl
  clear hm
  go_enter Try.func10, Try.ntmps10
  go_wp2_with fail
  refine MK.out.mono ?_
  rintro e w1 ⟨rfl, b1⟩
  have B1 := Lib.hid b1
  clear b1
  go_wp2
  go_ret2
  exact ⟨rfl, B1.out⟩

set_option maxRecDepth 100000 in
set_option maxHeartbeats 1000000 in
theorem put_ok (t : T) (v : Value) (w : World) (hl : TSl w v (T.toks t)) (hn : (T.toks t).length ≤ 10000) (hz : tsz (T.toks t) ≤ 6000) (hp : (T.put t).length ≤ 60000) (hm : T.may t = true) :
    Calls Try.prog 10 #[v] w fun e w' => e = .returned (.tuple #[.string (bs (T.put t)), .int .i64 0]) ∧ Below w.heap.size w w' := by
  have MK := Lib.hid (mayk_any (T.toks t) v w hl (by omega))
  rw [(mayk_iff (T.toks t)).2 ⟨t, hm, rfl⟩] at MK
  have SZ := Lib.hid (fun W (h : Below w.heap.size w W) => sizes_any t v W (hl.bel h) hn hz hp)
  have PA := Lib.hid (pm_all t)
  have WL := Lib.hid (T.wth_length t)
  have WM := Lib.hid (wth_le t)
  have hrg : T.rgt t = true := by unfold T.may at hm; simp only [Bool.and_eq_true] at hm; exact hm.1.1
  obtain ⟨l, hlt⟩ : ∃ l, l = T.toks t := ⟨_, rfl⟩
  rw [← hlt] at hl hn hz PA WL SZ
  have HL := Lib.hid hl
  have HZ := Lib.hid hz
  obtain ⟨a, c, rfl, hc, hr⟩ := hl
  obtain ⟨n, hnn⟩ : ∃ n, n = l.length := ⟨_, rfl⟩
  have HN := Lib.hid hnn
  obtain ⟨ns, hns⟩ : ∃ ns, ns = T.wth t := ⟨_, rfl⟩
  obtain ⟨out, hout⟩ : ∃ out, out = T.put t := ⟨_, rfl⟩
  rw [← hns] at PA WL SZ WM
  rw [← hout] at PA SZ hp WM ⊢
  rw [← hnn] at hn hc MK SZ ⊢
  rw [← hnn] at WL
  clear hm hz hlt hrg hr hnn hns hout
  go_enter Try.func10, Try.ntmps10
  go_wp2_with fail
  refine MK.out.mono ?_
  rintro e w1 ⟨rfl, b1⟩
  have B1 := Lib.hid b1
  clear b1
  go_wp2_with fail
  refine (SZ.out w1 B1.out).mono ?_
  rintro e w2 ⟨g, rfl, nm, b2⟩
  have B2 := Lib.hid (B1.out.trans (b2.mono B1.out.size))
  have NM := Lib.hid nm
  clear b2 nm SZ MK B1
  go_wp2_with fail
  refine (Try.Builder_Grow_fresh w2.heap.size w2.heap.size out.length _ (Nat.le_refl _) (heap_alloc_new w2 _) (by simp) (by omega)).mono ?_
  rintro e w3 ⟨rfl, hb3, bb3⟩
  obtain ⟨b, hb⟩ : ∃ b, b = w2.heap.size := ⟨_, rfl⟩
  rw [← hb] at hb3 bb3 ⊢
  have I0 := Lib.hid (show Bd b b [] w3 ∧ Below w.heap.size w w3 ∧ Below b w2 w3 from by
    have h1 : Below b w2 w3 := by rw [hb]; exact (bel1 w2 _).trans (hb ▸ bb3)
    exact ⟨.inr hb3, B2.out.trans (h1.mono (by rw [hb]; exact B2.out.size)), h1⟩)
  have HB := Lib.hid (show w.heap.size ≤ b ∧ g < b from ⟨by rw [hb]; exact B2.out.size, by rw [hb]; exact NM.out.lt⟩)
  have NB := Lib.hid (fun W (h : Below b w2 W) => show Nums .i64 3 W g ns from NM.out.keep (h.block g HB.out.2))
  clear hb3 bb3 hb B2
  go_wp2
  go_loopw [23] (fun v wr => ∃ (i : Nat) (acc : List UInt8), v = .int .i64 i ∧ i ≤ n ∧ Bd b b acc wr ∧ acc ++ pm (l.drop i) (ns.drop i) = out ∧ Below w.heap.size w wr ∧ Below b w2 wr) (fun i _ => n - (intOf i).toNat)
  case atStart => exact ⟨0, [], rfl, Nat.zero_le _, I0.out.1, PA.out, I0.out.2.1, I0.out.2.2⟩
  case round =>
    clear I0
    obtain ⟨i, acc, rfl, hi, hbd, hout, hbw, hb2⟩ := hrel
    have R := Lib.hid (And.intro hbd (And.intro hout (And.intro hbw hb2)))
    have lb := hbd.lt
    by_cases hlt : i < n
    · have hiL : i < l.length := by have := HN.out; omega
      have hiN : i < ns.length := by have := WL.out; omega
      obtain ⟨a', c', e', _, hr⟩ := HL.out
      have ha : a = a' := by injection e'
      subst ha
      obtain ⟨b', o', e', d0, d1⟩ := (hr.bel hbw) i hiL
      subst e'
      have lb' := lt_of_cell d0
      have zs := tsz_mem l l[i] (List.getElem_mem hiL)
      have hn0 := (NB.out _ hb2).cellD i hiN
      have hng := (NB.out _ hb2).lt
      rw [List.drop_eq_getElem_cons hiL, List.drop_eq_getElem_cons hiN, pm] at hout
      have hgd : ns.getD i 0 = ns[i] := by simp [List.getD, hiN]
      rw [hgd] at hn0
      obtain ⟨m, hm⟩ : ∃ m, m = ns[i] := ⟨_, rfl⟩
      have hmb : m ≤ 60000 := by have := WM.out ns[i] (List.getElem_mem hiN); omega
      rw [← hm] at hn0 hout
      obtain ⟨tk, htk⟩ : ∃ tk, tk = l[i] := ⟨_, rfl⟩
      rw [← htk] at d0 d1 zs hout
      obtain ⟨kk, ss⟩ := tk
      simp only at d0 d1 zs hout
      have HO := Lib.hid hout
      have hz := HZ.out
      have hss : ss.size ≤ 6000 := by omega
      have al : acc.length ≤ 60000 := by have := congrArg List.length hout; rw [List.length_append] at this; omega
      have BX := Lib.hid (show Bd b b acc (wr.alloc (.cells #[.int .i64 kk, .string ss] 48)) ∧ Below w.heap.size w (wr.alloc (.cells #[.int .i64 kk, .string ss] 48)) ∧ Below b w2 (wr.alloc (.cells #[.int .i64 kk, .string ss] 48)) ∧ b ≤ (wr.alloc (.cells #[.int .i64 kk, .string ss] 48)).heap.size from
        ⟨R.out.1.alloc _, R.out.2.2.1.alloc R.out.2.2.1.size _, R.out.2.2.2.alloc (by omega) _, by rw [size_push]; omega⟩)
      clear htk hr zs hz hm hgd hbd hbw hb2
      by_cases k1 : kk = 1
      · subst k1
        rw [if_pos rfl, ← List.append_assoc] at hout
        have HO2 := Lib.hid hout
        have WH := Lib.hid (fun W => whead_any m hmb W)
        have hdl := hd_le (b := 192) hmb
        have bsz : (bs (hd 192 m)).size = (hd 192 m).length := bs_size _
        clear hout R
        go_wp2_with fail
        refine (WH.out _).mono ?_
        rintro e w4 ⟨rfl, b4⟩
        have X4 := Lib.hid (show Bd b b acc w4 ∧ Below w.heap.size w w4 ∧ Below b w2 w4 ∧ b ≤ w4.heap.size from ⟨BX.out.1.bel b4, BX.out.2.1.trans (b4.mono BX.out.2.1.size), BX.out.2.2.1.trans (b4.mono BX.out.2.2.2), Nat.le_trans BX.out.2.2.2 b4.size⟩)
        clear b4 BX
        go_wp2_with fail
        refine (writeString_any b b acc (bs (hd 192 m)) w4 X4.out.1 (by omega) X4.out.2.2.2).mono ?_
        rintro e w5 ⟨rfl, d5, r5⟩
        rw [bs_list] at d5
        have X5 := Lib.hid (show Bd b b (acc ++ hd 192 m) w5 ∧ Below w.heap.size w w5 ∧ Below b w2 w5 from ⟨d5, X4.out.2.1.trans (r5.bel.mono HB.out.1), X4.out.2.2.1.trans r5.bel⟩)
        clear d5 r5 X4
        go_wp2
        go_roundw
        case rel => exact ⟨i + 1, _, by go_num, by omega, X5.out.1, HO2.out, X5.out.2.1, X5.out.2.2⟩
        case measure => (simp [intOf]) <;> omega
      · have t1 : (kk == (1 : Int)) = false := by simpa using k1
        by_cases k3 : kk = 3
        · subst k3
          rw [if_neg k1, if_pos rfl, ← List.append_assoc] at hout
          have HO2 := Lib.hid hout
          have WD := Lib.hid (fun W => word_item ss W)
          have PW := Lib.hid (fun W => put_word ss hss W)
          have pl := ptx_le (l := ss.data.toList) (by rw [T.sz]; omega)
          rw [T.sz] at pl
          have bsz : (bs (ptx ss.data.toList)).size = (ptx ss.data.toList).length := bs_size _
          clear hout R k1
          go_wp2_with fail
          refine (WD.out _).mono ?_
          rintro e w3' ⟨rfl, b3⟩
          have X3 := Lib.hid (show Bd b b acc w3' ∧ Below w.heap.size w w3' ∧ Below b w2 w3' ∧ b ≤ w3'.heap.size from ⟨BX.out.1.bel b3, BX.out.2.1.trans (b3.mono BX.out.2.1.size), BX.out.2.2.1.trans (b3.mono BX.out.2.2.2), Nat.le_trans BX.out.2.2.2 b3.size⟩)
          clear b3 BX
          go_wp2_with fail
          refine (PW.out _).mono ?_
          rintro e w4 ⟨rfl, b4⟩
          have X4 := Lib.hid (show Bd b b acc w4 ∧ Below w.heap.size w w4 ∧ Below b w2 w4 ∧ b ≤ w4.heap.size from ⟨X3.out.1.bel b4, X3.out.2.1.trans (b4.mono X3.out.2.1.size), X3.out.2.2.1.trans (b4.mono X3.out.2.2.2), Nat.le_trans X3.out.2.2.2 b4.size⟩)
          clear b4 X3
          go_wp2_with fail
          refine (writeString_any b b acc (bs (ptx ss.data.toList)) w4 X4.out.1 (by omega) X4.out.2.2.2).mono ?_
          rintro e w5 ⟨rfl, d5, r5⟩
          rw [bs_list] at d5
          have X5 := Lib.hid (show Bd b b (acc ++ ptx ss.data.toList) w5 ∧ Below w.heap.size w w5 ∧ Below b w2 w5 from ⟨d5, X4.out.2.1.trans (r5.bel.mono HB.out.1), X4.out.2.2.1.trans r5.bel⟩)
          clear d5 r5 X4
          go_wp2
          go_roundw
          case rel => exact ⟨i + 1, _, by go_num, by omega, X5.out.1, HO2.out, X5.out.2.1, X5.out.2.2⟩
          case measure => (simp [intOf]) <;> omega
        · have t3 : (kk == (3 : Int)) = false := by simpa using k3
          have hout := HO.out
          rw [if_neg k1, if_neg k3, List.nil_append] at hout
          have HO2 := Lib.hid hout
          clear hout R k1 k3
          go_wp2
          go_roundw
          case rel => exact ⟨i + 1, acc, by go_num, by omega, BX.out.1, HO2.out, BX.out.2.1, BX.out.2.2.1⟩
          case measure => (simp [intOf]) <;> omega
    · obtain rfl : i = n := by omega
      have E := Lib.hid (show acc = out from by rw [← hout, HN.out, List.drop_length]; simp [pm])
      clear hbd hout hbw hb2
      go_wp2_with fail
      refine (Try.Builder_String_any b b acc _ R.out.1 (by omega)).mono ?_
      rintro e w4 ⟨rfl, b4⟩
      have X4 := Lib.hid (R.out.2.2.1.trans (b4.mono HB.out.1))
      clear b4 R
      go_wp2
      go_ret2
      exact ⟨by rw [← E.out]; rfl, X4.out⟩
end Go.Proofs.Ytegakecncpfnnaa
