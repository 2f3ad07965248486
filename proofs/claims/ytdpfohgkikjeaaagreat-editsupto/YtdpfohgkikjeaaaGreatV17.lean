/- Part 17 of the proof: see its parts. -/
import Derived.Test.YtdpfohgkikjeaaaGreatV3
import Derived.Test.YtdpfohgkikjeaaaGreatV4
import Derived.Test.YtdpfohgkikjeaaaGreatV5
import Derived.Test.YtdpfohgkikjeaaaGreatV8
import Derived.Test.YtdpfohgkikjeaaaGreatV16
/- The swap and the file of the statements: the small functions. -/
namespace Go.Proofs.YtdpfohgkikjeaaaGreat
open Go.RowKit
set_option linter.unusedVariables false
set_option linter.unusedSimpArgs false

def iv (c : Int) : Value := .int .i64 c

/-- Numbers that are read: in blocks below B. -/
structure IntsAt (w : World) (B : Nat) (v : Value) (l : List Int) : Prop where
  fits : ∀ x ∈ l, RawOk x
  few : l.length ≤ 9223372036854775807
  low : B ≤ w.heap.size
  at_ : (∃ a c, v = .slice a 0 c ∧ l = []) ∨ ∃ b o c, v = .slice (some ⟨b, o, none⟩) l.length c ∧ b < B ∧ ∀ j x, l[j]? = some x → w.cell? ⟨b, o + j, none⟩ = some (iv x)

theorem IntsAt.kept {S : Blocks} {w w' : World} {B v l} (h : IntsAt w B v l) (k : Kept S w w') (hn : ∀ x, S x → B ≤ x) : IntsAt w' B v l := by
  refine ⟨h.fits, h.few, Nat.le_trans h.low k.size, ?_⟩
  rcases h.at_ with h1 | ⟨b, o, c, hv, hb, hc⟩
  · exact .inl h1
  · refine .inr ⟨b, o, c, hv, hb, fun j x hx => ?_⟩
    have hb2 := h.low
    rw [World.cell?_of_block (w := w) (k.block b (by omega) (fun hs => by have := hn b hs; omega))]
    exact hc j x hx

theorem number_any {w : World} {B : Nat} {v : Value} {l : List Int} (hr : IntsAt w B v l) (i : Nat) (iI : Int) (hi : iI = (i : Int)) (hsm : i ≤ 9223372036854775807) :
    Calls Tryz.prog 17 #[v, .int .i64 iI] w fun e w' => e = .returned (.int .i64 (l.getD i 0)) ∧ w' = w := by
  subst hi
  by_cases hlt : i < l.length
  · rcases hr.at_ with ⟨a, c, rfl, rfl⟩ | ⟨b, o, c, rfl, hb, hc⟩
    · simp at hlt
    have hcj := hc i l[i] (by simp [hlt])
    clear hc
    have e1 : l.getD i 0 = l[i] := by simp [hlt]
    rw [e1]
    generalize l[i] = x at hcj ⊢
    unfold iv at hcj
    clear e1 hr
    generalize l.length = n at *
    go_enter Tryz.func17, Tryz.ntmps17
    go_wp2
    go_ret
    exact ⟨rfl, rfl⟩
  · have e1 : l.getD i 0 = 0 := by simp [Nat.le_of_not_lt hlt]
    rw [e1]
    obtain ⟨pv, n, cv, rfl, hn⟩ : ∃ pv n cv, v = .slice pv n cv ∧ n ≤ i := by
      rcases hr.at_ with ⟨a, c, rfl, rfl⟩ | ⟨b, o, c, rfl, hb, hc⟩
      · exact ⟨_, _, _, rfl, Nat.zero_le _⟩
      · exact ⟨_, _, _, rfl, by omega⟩
    clear hr hlt e1
    go_enter Tryz.func17, Tryz.ntmps17
    go_wp2
    go_ret
    exact ⟨rfl, rfl⟩

/-- The raw number at a place, round and round. -/
def rawN (l : List Int) (i : Nat) : Int := l.getD (i % l.length) 0

theorem rawN_ok {l : List Int} (h : ∀ x ∈ l, RawOk x) (i : Nat) : RawOk (rawN l i) := by
  unfold rawN
  rw [List.getD_eq_getElem?_getD]
  cases hx : l[i % l.length]? with
  | none => exact ⟨by decide, by decide⟩
  | some x => exact h x (List.mem_of_getElem? hx)

theorem raw_any {w : World} {B : Nat} {v : Value} {l : List Int} (hr : IntsAt w B v l) (i : Nat) (iI : Int) (hi : iI = (i : Int)) (hsm : i ≤ 9223372036854775807) :
    Calls Tryz.prog 39 #[v, .int .i64 iI] w fun e w' => e = .returned (.int .i64 (rawN l i)) ∧ w' = w := by
  subst hi
  have hfew := hr.few
  by_cases hlt : 0 < l.length
  · rcases hr.at_ with ⟨a, c, rfl, rfl⟩ | ⟨b, o, c, rfl, hb, hc⟩
    · simp at hlt
    have hj : i % l.length < l.length := Nat.mod_lt _ hlt
    have hcj := hc (i % l.length) l[i % l.length] (by simp [hj])
    clear hc
    have e1 : rawN l i = l[i % l.length] := by simp [rawN, hj]
    rw [e1]
    clear e1
    generalize l[i % l.length] = x at hcj ⊢
    unfold iv at hcj
    clear hr
    have hj2 : Nat.lt (i % l.length) l.length := hj
    clear hj
    generalize hn : l.length = n at *
    have hj3 : i % n < n := hj2
    clear hj2
    generalize hm : i % n = m at *
    have hmI : (i : Int).tmod (n : Int) = (m : Int) := by rw [Int.tmod_eq_emod_of_nonneg (by omega)]; omega
    have hmE : (i : Int) % (n : Int) = (m : Int) := by omega
    have hb : ((n : Int) == 0) = false := by rw [beq_eq_false_iff_ne]; omega
    have hn0 : ¬ (n : Int) = 0 := by omega
    have hm1 : (m : Int) < (n : Int) := by omega
    have hm0 : ¬ (m : Int) < 0 := by omega
    clear hm hn
    go_enter Tryz.func39, Tryz.ntmps39
    go_wp2
    go_ret
    exact ⟨rfl, rfl⟩
  · have e0 : l = [] := List.eq_nil_of_length_eq_zero (by omega)
    subst e0
    obtain ⟨pv, cv, rfl⟩ : ∃ pv cv, v = .slice pv 0 cv := by
      rcases hr.at_ with ⟨a, c, rfl, _⟩ | ⟨b, o, c, rfl, hb, hc⟩
      · exact ⟨_, _, rfl⟩
      · exact ⟨_, _, rfl⟩
    clear hr
    go_enter Tryz.func39, Tryz.ntmps39
    go_wp2
    go_ret
    exact ⟨rfl, rfl⟩

theorem pick_eq (c : Int) (n : Nat) (hc : RawOk c) (h0 : 0 < n) : ((pickN c n : Nat) : Int) = if c < 0 then (-(c + 1)) % (n : Int) else c % (n : Int) := by
  obtain ⟨hc1, hc2⟩ := hc
  unfold pickN
  split
  · rw [Int.natCast_emod, Int.toNat_of_nonneg (by omega)]
  · rw [Int.natCast_emod, Int.toNat_of_nonneg (by omega)]

theorem neg_mod {c n : Int} (h : c < 0) : (-(c + 1)) % n = -((c + 1).tmod n) := by rw [← Int.neg_tmod, Int.tmod_eq_emod_of_nonneg (by omega)]

theorem pick_fs (c : Int) (n : Nat) (nI : Int) (hn : nI = (n : Int)) (hc : RawOk c) (h0 : 0 < n) (hsm : n ≤ 9223372036854775807) (w : World) :
    Calls Tryz.prog 38 #[.int .i64 c, .int .i64 nI] w fun e w' => e = .returned (.int .i64 (pickN c n : Nat)) ∧ w' = w := by
  subst hn
  have he := pick_eq c n hc h0
  obtain ⟨hc1, hc2⟩ := hc
  by_cases h : c < 0
  · rw [if_pos h] at he
    have HE : Hid (((pickN c n : Nat) : Int) = (-(c + 1)) % (n : Int)) := he
    clear he
    have hz : ((n : Int) == 0) = false := by rw [beq_eq_false_iff_ne]; omega
    go_enter Tryz.func38, Tryz.ntmps38
    go_wp2
    go_ret
    exact ⟨by rw [HE.out, neg_mod h]; rfl, rfl⟩
  · rw [if_neg h] at he
    have HE : Hid (((pickN c n : Nat) : Int) = c % (n : Int)) := he
    clear he
    have hz : ((n : Int) == 0) = false := by rw [beq_eq_false_iff_ne]; omega
    go_enter Tryz.func38, Tryz.ntmps38
    go_wp2
    go_ret
    exact ⟨by rw [HE.out]; rfl, rfl⟩

theorem pick_keep (c : Int) (n : Nat) (nI : Int) (hn : nI = (n : Int)) (hc : RawOk c) (h0 : 0 < n) (hsm : n ≤ 9223372036854775807) (w : World) :
    Calls Tryz.prog 23 #[.int .i64 c, .int .i64 nI] w fun e w' => e = .returned (.int .i64 (pickN c n : Nat)) ∧ w' = w := by
  subst hn
  have he := pick_eq c n hc h0
  obtain ⟨hc1, hc2⟩ := hc
  by_cases h : c < 0
  · rw [if_pos h] at he
    have HE : Hid (((pickN c n : Nat) : Int) = (-(c + 1)) % (n : Int)) := he
    clear he
    have hz : ((n : Int) == 0) = false := by rw [beq_eq_false_iff_ne]; omega
    go_enter Tryz.func23, Tryz.ntmps23
    go_wp2
    go_ret
    exact ⟨by rw [HE.out, neg_mod h]; rfl, rfl⟩
  · rw [if_neg h] at he
    have HE : Hid (((pickN c n : Nat) : Int) = c % (n : Int)) := he
    clear he
    have hz : ((n : Int) == 0) = false := by rw [beq_eq_false_iff_ne]; omega
    go_enter Tryz.func23, Tryz.ntmps23
    go_wp2
    go_ret
    exact ⟨by rw [HE.out]; rfl, rfl⟩
end Go.Proofs.YtdpfohgkikjeaaaGreat
/- The document's own answer: every, IsLine, Sum. -/
namespace Go.Proofs.YtdpfohgkikjeaaaGreat
open Go.RowKit
set_option linter.unusedVariables false
set_option linter.unusedSimpArgs false

theorem every_ref (n : Int) (w : World) : Calls Tryz.prog 122 #[.int .i64 n] w fun e w' => e = .returned (.bool (decide (1 ≤ n ∧ n ≤ 20))) ∧ w' = w := by
  by_cases h1 : 1 ≤ n
  · by_cases h2 : n ≤ 20
    · rw [decide_eq_true ⟨h1, h2⟩]
      have h1' : n ≥ 1 := h1
      go_enter Tryz.func122, Tryz.ntmps122
      go_wp2
      go_ret
      exact ⟨by simp [h1, h2], rfl⟩
    · rw [decide_eq_false (fun h => h2 h.2)]
      have h1' : n ≥ 1 := h1
      go_enter Tryz.func122, Tryz.ntmps122
      go_wp2
      go_ret
      exact ⟨by simp [h1, h2], rfl⟩
  · rw [decide_eq_false (fun h => h1 h.1)]
    have h1' : ¬ n ≥ 1 := h1
    go_enter Tryz.func122, Tryz.ntmps122
    go_wp2
    go_ret
    exact ⟨by simp, rfl⟩

theorem isLine_ref (s : Str) (w : World) (hs : s.length ≤ 1099511627776) : Calls Tryz.prog 124 #[sv s] w fun e w' => e = .returned (.bool (decide (LineOk s))) ∧ w' = w := by
  obtain ⟨S, hS⟩ : ∃ S : ByteArray, S = ⟨s.toArray⟩ := ⟨_, rfl⟩
  have hsz : S.size = s.length := by rw [hS, size_mk]
  have hget : ∀ k (h : k < S.size) b, s[k]? = some b → S[k] = b := fun k h b hb => by
    subst hS
    have h2 : k < s.length := by rwa [size_mk] at h
    rw [List.getElem?_eq_getElem h2] at hb
    exact Option.some.inj hb
  show Calls Tryz.prog 124 #[.string ⟨s.toArray⟩] w _
  rw [← hS]
  clear hS
  have HG : Hid (∀ k (h : k < S.size) b, s[k]? = some b → S[k] = b) := hget
  have HZ : Hid (S.size = s.length) := hsz
  have hsz' : S.size ≤ 1099511627776 := by omega
  clear hget hsz
  go_enter Tryz.func124, Tryz.ntmps124
  go_wp2_with fail
  go_loopw [3] (fun s3 wr => ∃ k : Nat, k ≤ S.size ∧ s3 = .int .i64 ((k : Nat) : Int) ∧ (∀ x ∈ s.take k, x ≠ 10) ∧ wr = w) (fun i _ => S.size - (intOf i).toNat)
  case atStart => exact ⟨0, by omega, rfl, by simp, rfl⟩
  case round =>
    obtain ⟨k, hk, rfl, hno, rfl⟩ := hrel
    have hzz := HZ.out
    by_cases h1 : k < S.size
    · have hks : k < s.length := by omega
      have hb := HG.out k h1 s[k] (List.getElem?_eq_getElem hks)
      have htk : s.take (k + 1) = s.take k ++ [s[k]] := List.take_succ_eq_append_getElem _
      have hmem : s[k] ∈ s := List.getElem_mem _
      clear hzz
      by_cases hx : s[k] = 10
      · have hnot : Hid (¬ LineOk s) := fun h => h.2 (hx ▸ hmem)
        have hb2 : S[k] = 10 := hb.trans hx
        clear hx hb htk hmem hno
        go_wp2
        go_ret
        exact ⟨by rw [decide_eq_false hnot.out]; rfl, rfl⟩
      · have hno' : Hid (∀ x ∈ s.take (k + 1), x ≠ 10) := fun y hy => by
          rw [htk] at hy
          rcases List.mem_append.1 hy with hy | hy
          · exact hno y hy
          · simp at hy; rw [hy]; exact hx
        have hb2 : ¬ (S[k].toNat : Int) = 10 := fun e => hx (hb.symm.trans (UInt8.toNat_inj.1 (by show S[k].toNat = 10; omega)))
        clear hx hb htk hmem hno
        go_wp2
        exact ⟨⟨k + 1, by omega, by go_num, hno'.out, trivial⟩, by simp [intOf]; omega⟩
    · have hno' : (10 : UInt8) ∉ s := fun h => hno 10 (by rw [List.take_of_length_le (by omega)]; exact h) rfl
      clear hno
      by_cases h40 : s.length ≤ 40
      · have hd : Hid (LineOk s) := ⟨h40, hno'⟩
        have h40' : (S.size : Int) ≤ 40 := by omega
        clear hno' hzz
        go_wp2
        go_ret
        exact ⟨by first | rfl | (rw [decide_eq_true hd.out]; rfl), rfl⟩
      · have hd : Hid (¬ LineOk s) := fun h => h40 h.1
        have h40' : ¬ (S.size : Int) ≤ 40 := by omega
        clear hno' hzz
        go_wp2
        go_ret
        exact ⟨by first | rfl | (rw [decide_eq_false hd.out]; rfl), rfl⟩
end Go.Proofs.YtdpfohgkikjeaaaGreat
/- The document's own answer: Sum, bit by bit. -/
namespace Go.Proofs.YtdpfohgkikjeaaaGreat
open Go.RowKit
set_option linter.unusedVariables false
set_option linter.unusedSimpArgs false

theorem i64_xor (a b : Nat) (ha : a < 4294967296) (hb : b < 4294967296) : bits BinOp.xor IntKind.i64 (a : Int) (b : Int) = ((a ^^^ b : Nat) : Int) := by
  have hx : a ^^^ b < 2 ^ 32 := Nat.xor_lt_two_pow (by omega) (by omega)
  have h1 : (BitVec.ofInt 64 (a : Int)).toNat = a := by rw [BitVec.ofInt_natCast, BitVec.toNat_ofNat]; exact Nat.mod_eq_of_lt (by omega)
  have h2 : (BitVec.ofInt 64 (b : Int)).toNat = b := by rw [BitVec.ofInt_natCast, BitVec.toNat_ofNat]; exact Nat.mod_eq_of_lt (by omega)
  show IntKind.i64.wrap ((BitVec.ofInt 64 (a : Int) ^^^ BitVec.ofInt 64 (b : Int)).toNat : Int) = _
  rw [BitVec.toNat_xor, h1, h2, IntKind.wrap_i64]
  omega

/-- One step, of the two numbers apart. -/
theorem bit_apart (v c : Nat) : crcBit (v ^^^ c) = (if (v + c) % 2 = 1 then v / 2 ^^^ 2197175160 else v / 2) ^^^ (c / 2) := by
  have h0 := @Nat.xor_mod_two_eq_one v c
  have h1 : (v ^^^ c) % 2 = (v + c) % 2 := by omega
  have h2 : (v ^^^ c) / 2 = v / 2 ^^^ c / 2 := Nat.xor_div_two
  unfold crcBit
  rw [h1, h2]
  split
  · rw [Nat.xor_assoc, Nat.xor_assoc, Nat.xor_comm (c / 2)]
  · rfl

theorem half_lt {v : Nat} (h : v < 4294967296) : (if 1 = 1 then v / 2 ^^^ 2197175160 else v / 2) < 4294967296 := by
  rw [if_pos rfl]
  exact xor_lt32 (by omega) (by omega)

set_option maxRecDepth 100000 in
set_option maxHeartbeats 1000000 in
theorem sum_ref (s : Str) (w : World) (hs : s.length ≤ 1099511627776) : Calls Tryz.prog 127 #[sv s] w fun e w' => e = .returned (.int .i64 (crc s : Nat)) ∧ w' = w := by
  obtain ⟨S, hS⟩ : ∃ S : ByteArray, S = ⟨s.toArray⟩ := ⟨_, rfl⟩
  have hsd : s = S.data.toList := by rw [hS]
  show Calls Tryz.prog 127 #[.string ⟨s.toArray⟩] w _
  have hsz : S.size ≤ 1099511627776 := by rw [hS, size_mk]; exact hs
  rw [← hS, hsd]
  clear hS hsd hs
  go_enter Tryz.func127, Tryz.ntmps127
  go_wp2
  go_loopw [3, 4] (fun s3 s4 wr => ∃ k : Nat, k ≤ S.size ∧ s3 = .int .i64 ((crcFrom 4294967295 (S.data.toList.take k) : Nat) : Int) ∧ s4 = .int .i64 ((k : Nat) : Int) ∧ wr = w) (fun _ i _ => S.size - (intOf i).toNat)
  case atStart => exact ⟨0, Nat.zero_le _, rfl, rfl, rfl⟩
  case round =>
    obtain ⟨k, hk, rfl, rfl, rfl⟩ := hrel
    have hv := crcFrom_lt (s := 4294967295) (S.data.toList.take k) (by omega)
    generalize hV : crcFrom 4294967295 (S.data.toList.take k) = v at hv
    have HV : Hid (crcFrom 4294967295 (S.data.toList.take k) = v) := hV
    clear hV
    by_cases hlt : k < S.size
    · have hb := S[k].toNat_lt
      have HB : Hid (crcFrom 4294967295 (S.data.toList.take (k + 1)) = crcBits 8 (v ^^^ S[k].toNat)) := by
        show crcFrom _ _ = _
        rw [take_snoc S k hlt, crcFrom_snoc, HV.out]; rfl
      go_wp2
      generalize S[k].toNat = c0 at hb HB ⊢
      go_loopw [3, 5, 6] (fun s3 s5 s6 wx => ∃ (j u d : Nat), j ≤ 8 ∧ u < 4294967296 ∧ s3 = .int .i64 ((u : Nat) : Int) ∧ s5 = .int .i64 ((d : Nat) : Int) ∧ s6 = .int .i64 ((j : Nat) : Int) ∧ d * 2 ^ j < 256 ∧ Hid (u ^^^ d = crcBits j (v ^^^ c0)) ∧ wx = wr) (fun _ _ j _ => 8 - (intOf j).toNat)
      case atStart => exact ⟨0, v, c0, by omega, hv, rfl, rfl, rfl, by simpa using hb, rfl, rfl⟩
      case round =>
        obtain ⟨j, u, d, hj, hu, rfl, rfl, rfl, hd, hU, rfl⟩ := hrel
        by_cases hl8 : j < 8
        · have hst : Hid (crcBits (j + 1) (v ^^^ c0) = (if (u + d) % 2 = 1 then u / 2 ^^^ 2197175160 else u / 2) ^^^ (d / 2)) := by
            show crcBits (j + 1) (v ^^^ c0) = _
            rw [← bit_apart, hU.out]; rfl
          have hd2 : d / 2 * 2 ^ (j + 1) < 256 := by
            rw [Nat.pow_succ, Nat.mul_comm (2 ^ j) 2, ← Nat.mul_assoc]
            exact Nat.lt_of_le_of_lt (Nat.mul_le_mul_right _ (Nat.div_mul_le_self d 2)) hd
          have hd1 : d < 256 := Nat.lt_of_le_of_lt (Nat.le_mul_of_pos_right d (Nat.two_pow_pos j)) hd
          have hx := i64_xor (u / 2) 2197175160 (by omega) (by omega)
          have hxl := xor_lt32 (a := u / 2) (b := 2197175160) (by omega) (by omega)
          have HD : Hid (d / 2 * 2 ^ (j + 1) < 256) := hd2
          clear hd hd2
          by_cases hodd : (u + d) % 2 = 1
          · have hodd' : ((u : Int) + (d : Int)).tmod 2 = 1 := by rw [Int.tmod_eq_emod_of_nonneg (by omega)]; omega
            go_wp2
            exact ⟨⟨j + 1, u / 2 ^^^ 2197175160, d / 2, by omega, hxl, int_of (by rw [show (u : Int) / 2 = ((u / 2 : Nat) : Int) by omega]; exact hx), int_of (by omega), by go_num, HD.out, by show _ = _; rw [hst.out, if_pos hodd], trivial⟩, by simp [intOf]; omega⟩
          · have hodd' : ¬ ((u : Int) + (d : Int)).tmod 2 = 1 := by rw [Int.tmod_eq_emod_of_nonneg (by omega)]; omega
            go_wp2
            exact ⟨⟨j + 1, u / 2, d / 2, by omega, by omega, int_of (by omega), int_of (by omega), by go_num, HD.out, by show _ = _; rw [hst.out, if_neg hodd], trivial⟩, by simp [intOf]; omega⟩
        · obtain rfl : j = 8 := by omega
          obtain rfl : d = 0 := by omega
          go_wp2
          refine ⟨⟨k + 1, by omega, ?_, by go_num, trivial⟩, by simp [intOf]; omega⟩
          rw [HB.out, ← hU.out, Nat.xor_zero]
    · go_wp2
      go_ret
      refine ⟨ret_int ?_, rfl⟩
      have e : S.data.toList.take k = S.data.toList := List.take_of_length_le (by simp; omega)
      rw [e] at HV
      rw [crc, HV.out]
      omega
end Go.Proofs.YtdpfohgkikjeaaaGreat
/- The document's own answer: Cut. -/
namespace Go.Proofs.YtdpfohgkikjeaaaGreat
open Go.RowKit
set_option linter.unusedVariables false
set_option linter.unusedSimpArgs false

/-- What Cut answers. -/
def CutRef (w w' : World) (s : Str) (e : Ending) : Prop :=
  (∃ ls v, TextOk ls ∧ textOf ls = s ∧ e = .returned (.tuple #[v, .bool true]) ∧ Row w' 9 1 v ls.length (ls.map sv) ∧ (∀ x ∈ fpv v, w.heap.size ≤ x)) ∨ (¬ IsText s ∧ ∃ v, e = .returned (.tuple #[v, .bool false]))

theorem textOf_snoc (a : List Str) (l : Str) : (textOf (a ++ [l])).length = (textOf a).length + l.length + 1 := by
  rw [textOf_append, textOf_cons, textOf_nil, List.length_append, List.length_append]
  rfl

theorem not_text_long {s line rest : Str} {done : List Str} (hd : ∀ l ∈ done, LineOk l) (h : textOf done ++ line ++ 10 :: rest = s) (hn : (10 : UInt8) ∉ line) (hl : 40 < line.length) : ¬ IsText s := by
  rintro ⟨ls, hok, hls⟩
  rw [List.append_assoc] at h
  obtain ⟨ls', h1, h2⟩ := textOf_prefix (fun l hl => (hd l hl).2) (fun l hl => (hok.lines l hl).2) (h.trans hls.symm)
  cases ls' with
  | nil => rw [textOf_nil] at h2; simp at h2
  | cons y ys =>
    have hy := hok.lines y (by rw [h1]; simp)
    rw [textOf_cons] at h2
    have := (split_unique h2 hn hy.2).1
    rw [this] at hl
    have := hy.1
    omega

theorem text_end {s line : Str} {done : List Str} (hd : ∀ l ∈ done, LineOk l) (h : textOf done ++ line = s) (hn : (10 : UInt8) ∉ line) : IsText s ↔ line = [] ∧ done.length ≤ 60 := by
  constructor
  · rintro ⟨ls, hok, hls⟩
    obtain ⟨ls', h1, h2⟩ := textOf_prefix (fun l hl => (hd l hl).2) (fun l hl => (hok.lines l hl).2) (h.trans hls.symm)
    cases ls' with
    | nil =>
      refine ⟨h2, ?_⟩
      have := hok.few
      rw [h1] at this
      simpa using this
    | cons y ys =>
      rw [textOf_cons] at h2
      exact absurd (by rw [h2]; simp) hn
  · rintro ⟨rfl, h60⟩
    exact ⟨done, ⟨h60, hd⟩, by simpa using h⟩

set_option maxRecDepth 100000 in
set_option maxHeartbeats 2000000 in
theorem cut_ref (s : Str) (w : World) (hs : s.length ≤ 1099511627776) : Calls Tryz.prog 123 #[sv s] w fun e w' => CutRef w w' s e ∧ Kept no w w' := by
  obtain ⟨S, hS⟩ : ∃ S : ByteArray, S = ⟨s.toArray⟩ := ⟨_, rfl⟩
  have hsz : S.size = s.length := by rw [hS, size_mk]
  have hget : ∀ k (h : k < S.size) b, s[k]? = some b → S[k] = b := fun k h b hb => by
    subst hS
    have h2 : k < s.length := by rwa [size_mk] at h
    rw [List.getElem?_eq_getElem h2] at hb
    exact Option.some.inj hb
  have hex : ∀ i j, S.extract i j = ⟨((s.take j).drop i).toArray⟩ := fun i j => by rw [hS]; exact extract_list _ _ _
  show Calls Tryz.prog 123 #[.string ⟨s.toArray⟩] w _
  rw [← hS]
  have HG : Hid (∀ k (h : k < S.size) b, s[k]? = some b → S[k] = b) := hget
  have HX : Hid (∀ i j, S.extract i j = ⟨((s.take j).drop i).toArray⟩) := hex
  have HZ : Hid (S.size = s.length) := hsz
  have hsz' : S.size ≤ 1099511627776 := by omega
  clear hget hsz hS hex
  go_enter Tryz.func123, Tryz.ntmps123
  go_wp2_with fail
  go_loopw [4, 5, 6] (fun s4 s5 s6 wr => ∃ (done : List Str) (line rest : Str) (from' i : Nat), s5 = .int .i64 ((from' : Nat) : Int) ∧ s6 = .int .i64 ((i : Nat) : Int) ∧ from' = (textOf done).length ∧ i = from' + line.length ∧ i + rest.length = S.size ∧ Hid (textOf done ++ line ++ rest = s) ∧ (10 : UInt8) ∉ line ∧ (∀ l ∈ done, LineOk l) ∧ done.length ≤ from' ∧ Row wr 9 1 s4 done.length (done.map sv) ∧ (∀ x ∈ fpv s4, w.heap.size ≤ x) ∧ Kept no w wr) (fun _ _ i _ => S.size - (intOf i).toNat)
  case atStart => exact ⟨[], [], s, 0, 0, rfl, rfl, rfl, rfl, by have := HZ.out; omega, rfl, by simp, by simp, Nat.le_refl _, Row.nilrow _ _, by simp [fpv_nil], Kept.refl _ _⟩
  case round =>
    obtain ⟨done, line, rest, fr, i, rfl, rfl, hfr, hi, hir, HS, hnl, hdl, hdn, hrow, hfresh, hkw⟩ := hrel
    obtain ⟨p4, c4, rfl⟩ := hrow.slice
    cases rest with
    | nil =>
      have hin : ¬ i < S.size := by simp at hir; omega
      have hend := text_end (s := s) hdl (by have := HS.out; rwa [List.append_nil] at this) hnl
      have HF : Hid (fr = (textOf done).length) := hfr
      have hln : line = [] ↔ fr = S.size := by
        constructor
        · intro e; rw [e] at hi; simp at hi hir; omega
        · intro e; refine List.eq_nil_of_length_eq_zero ?_; simp at hir; omega
      have HE : Hid (IsText s ↔ fr = S.size ∧ done.length ≤ 60) := by show _ ↔ _; rw [← hln]; exact hend
      have HL : Hid (line = [] ↔ fr = S.size) := hln
      have hi2 : i = S.size := by simp at hir; omega
      clear hend hln hnl hi hir hfr
      generalize hdl60 : done.length = n at *
      by_cases h1 : fr = S.size
      · subst h1
        by_cases h2 : n ≤ 60
        · have h2' : (n : Int) ≤ 60 := by omega
          have HD : Hid (done.length = n) := hdl60
          have HL0 : Hid (line = []) := HL.out.2 rfl
          clear hdl60 HL HE
          go_wp2
          go_ret2
          refine ⟨.inl ⟨done, _, ⟨by rw [HD.out]; exact h2, hdl⟩, ?_, rfl, by rw [HD.out]; exact hrow, hfresh⟩, hkw⟩
          have := HS.out
          rw [HL0.out] at this
          simpa using this
        · have h2' : ¬ (n : Int) ≤ 60 := by omega
          have HN : Hid (¬ IsText s) := fun h => h2 (HE.out.1 h).2
          go_wp2
          go_ret2
          exact ⟨.inr ⟨HN.out, _, rfl⟩, hkw⟩
      · have h1' : ¬ (fr : Int) = (S.size : Int) := by omega
        have HN : Hid (¬ IsText s) := fun h => h1 (HE.out.1 h).1
        go_wp2
        go_ret2
        exact ⟨.inr ⟨HN.out, _, rfl⟩, hkw⟩
    | cons x rest =>
      have hin : i < S.size := by simp at hir; omega
      have hx := HG.out i hin x (by
        rw [← HS.out, hi, hfr, List.getElem?_append_right (by rw [List.length_append]; omega), List.length_append, Nat.sub_self]
        rfl)
      have HI : Hid (i = fr + line.length) := hi
      have HF : Hid (fr = (textOf done).length) := hfr
      have hil : i ≤ S.size := by omega
      have hfi : fr ≤ i := by omega
      have hll : line.length = i - fr := by omega
      clear hi hfr
      by_cases hx10 : x = 10
      · rw [hx10] at hx
        have HS2 : Hid (textOf done ++ line ++ 10 :: rest = s) := by rw [← hx10]; exact HS
        clear hx10 HS
        by_cases h40 : line.length ≤ 40
        · have h40' : ¬ (i : Int) - (fr : Int) > 40 := by omega
          have hel : S.extract fr i = ⟨line.toArray⟩ := by
            rw [HX.out, ← HS2.out]
            congr 2
            rw [List.take_left' (by rw [List.length_append, HI.out, HF.out]), List.drop_left' HF.out.symm]
          have HLN : Hid (LineOk line) := ⟨h40, hnl⟩
          have HLL : Hid (line.length = i - fr) := hll
          clear hnl h40 hll
          go_wp2_with (at_builtin; apply hold)
          delta Hid
          refine wpList_push rfl _ _ 34 rfl tyS _ _ _ rfl (hrow.alloc _) _ 1 (sv line) rfl (by rw [(cells_of heap_alloc_same).1]; rfl) rfl (by decide) (by omega) (fun v5 w5 hr hg => ?_)
          go_wp2
          refine ⟨⟨done ++ [line], [], rest, i + 1, i + 1, by go_num, by go_num, ?_, rfl, ?_, ?_, by simp, ?_, ?_, ?_, fun x hx => ?_, ?_⟩, by simp [intOf]; omega⟩
          · rw [textOf_snoc, ← HF.out, HI.out]
          · simp at hir; omega
          · have := HS2.out
            show _ = _
            rw [← this, textOf_append]
            simp [textOf]
          · intro l hl
            rcases List.mem_append.1 hl with hl | hl
            · exact hdl l hl
            · simp at hl; subst hl; exact HLN.out
          · simp; omega
          · have e : (done ++ [line]).map sv = done.map sv ++ [sv line] := by simp
            rw [e, List.length_append]
            exact hr
          · rcases hg.2 x hx with h1 | h1
            · exact hfresh x h1
            · have := hkw.size; simp at h1; omega
          · exact (hkw.step ((Kept.refl _ _).alloc _)).step' hg.1 (fun x hx hlt => by have := hfresh x hx; omega)
        · have h40' : (i : Int) - (fr : Int) > 40 := by omega
          have HN : Hid (¬ IsText s) := not_text_long hdl HS2.out hnl (by omega)
          clear hnl h40 hll
          go_wp2
          go_ret2
          exact ⟨.inr ⟨HN.out, _, rfl⟩, hkw⟩
      · have hxn : ¬ (S[i].toNat : Int) = 10 := fun e => hx10 (hx.symm.trans (UInt8.toNat_inj.1 (by show S[i].toNat = 10; omega)))
        have HS2 : Hid (textOf done ++ (line ++ [x]) ++ rest = s) := by
          have := HS.out
          show _ = _
          rw [← this]; simp
        have HNL : Hid ((10 : UInt8) ∉ line ++ [x]) := by
          intro h
          rcases List.mem_append.1 h with h | h
          · exact hnl h
          · simp at h; exact hx10 h.symm
        have HR : Hid (i + 1 + rest.length = S.size) := by simp at hir; show _ = _; omega
        clear hx hx10 hnl HS hir
        go_wp2
        exact ⟨⟨done, line ++ [x], rest, fr, i + 1, rfl, by go_num, HF.out, by rw [List.length_append, HI.out]; rfl, HR.out, HS2, HNL.out, hdl, hdn, hrow, hfresh, hkw⟩, by simp [intOf]; omega⟩
end Go.Proofs.YtdpfohgkikjeaaaGreat
/- nought, line, file, one. -/
namespace Go.Proofs.YtdpfohgkikjeaaaGreat
open Go.RowKit
set_option linter.unusedVariables false
set_option linter.unusedSimpArgs false

theorem infoU8 : (Tryz.prog.info? 5).map (fun i => (i.zero, i.size, i.bytes)) = some (some (.int .u8 0), 1, 1) := by kernel_rfl

theorem make_bytes (n : Nat) (h : n ≤ 1000) (u : World) : (Instr.makeSlice 56 (.int .i64 (n : Int)) (.int .i64 (n : Int))).run Tryz.prog u =
    .ok (.slice (some ⟨u.heap.size, 0, none⟩) n n) (u.alloc (.cells (bcells (zs n)).toArray 5)) := by
  obtain ⟨i0, hi, hz0, hz1, hz2⟩ := info_parts infoU8
  have h := run_make (P := Tryz.prog) u 56 5 i0 (.int .u8 0) Tryz.underlying56 hi hz0 .i64 .i64 (n : Int) (n : Int) (by omega) (Int.le_refl _) (by rw [hz2]; omega) (by omega)
  rw [h]
  have e : madeCells (Value.int IntKind.u8 0).cells ((n : Int).toNat * i0.size) = (bcells (zs n)).toArray := by
    rw [hz1, Nat.mul_one, Int.toNat_natCast]
    apply Array.toList_inj.1
    rw [show (Value.int IntKind.u8 0).cells = #[Value.int IntKind.u8 0] from rfl, toList_madeCells_one]
    simp [bcells, zs]
  rw [e]
  simp

theorem nought_any (w : World) : Calls Tryz.prog 60 #[] w fun e w' => e = .returned (sv blank) ∧ Kept no w w' := by
  obtain ⟨b, hb⟩ : ∃ b, b = blank := ⟨_, rfl⟩
  have hbl : b = zs 64 := by rw [hb]; rfl
  obtain ⟨C, hC⟩ : ∃ C, C = (bcells (zs 64)).toArray := ⟨_, rfl⟩
  have hmk : ∀ u : World, (Instr.makeSlice 56 (.int .i64 64) (.int .i64 64)).run Tryz.prog u = .ok (.slice (some ⟨u.heap.size, 0, none⟩) 64 64) (u.alloc (.cells C 5)) := fun u => by
    rw [hC]; exact make_bytes 64 (by decide) u
  have hcv : (convert 56 9 (.slice (some ⟨w.heap.size, 0, none⟩) 64 64)).run Tryz.prog (w.alloc (.cells C 5)) = .ok (sv b) (w.alloc (.cells C 5)) := by
    have hB : BytesAt (w.alloc (.cells C 5)) w.heap.size 0 b := by
      rw [hbl, hC]; exact BytesAt.of_row heap_alloc_same (fun j v h => by simpa using h)
    have := run_bytes_str (P := Tryz.prog) _ _ 9 _ _ _ 64 _ Tryz.underlying56 Tryz.underlying5 Tryz.underlying9 hB
    have hl : b.length = 64 := by rw [hbl]; exact zs_length 64
    rw [hl] at this
    exact this
  rw [← hb]
  clear hb hbl hC
  go_enter Tryz.func60, Tryz.ntmps60
  go_wp2_with fail
  go_ret
  exact ⟨rfl, (Kept.refl _ _).alloc _⟩

theorem tdiv_bd {c : Int} (hc : RawOk c) : -300000000000000000 ≤ c.tdiv 41 ∧ c.tdiv 41 ≤ 300000000000000000 := by
  obtain ⟨h1, h2⟩ := hc
  by_cases h : 0 ≤ c
  · rw [Int.tdiv_eq_ediv_of_nonneg h]; omega
  · have := Int.neg_tdiv (a := -c) (b := 41)
    rw [Int.neg_neg] at this
    rw [this, Int.tdiv_eq_ediv_of_nonneg (by omega)]; omega

/-- What stands in the row of a line that is being made. -/
def lineAt (c : Int) (k : Nat) : Str := ((List.range k).map (lineByte c)) ++ zs (pickN c 41 - k)
theorem lineAt_length (c : Int) {k : Nat} (h : k ≤ pickN c 41) : (lineAt c k).length = pickN c 41 := by simp [lineAt, zs]; omega
theorem lineAt_zero (c : Int) : lineAt c 0 = zs (pickN c 41) := by simp [lineAt]
theorem lineAt_end (c : Int) : lineAt c (pickN c 41) = lineN c := by simp [lineAt, lineN, zs]
theorem lineAt_set (c : Int) {k : Nat} (h : k < pickN c 41) : (lineAt c k).set k (lineByte c k) = lineAt c (k + 1) := by
  unfold lineAt
  rw [List.set_append_right _ _ (by simp)]
  have e : zs (pickN c 41 - k) = 0 :: zs (pickN c 41 - (k + 1)) := by
    rw [show pickN c 41 - k = (pickN c 41 - (k + 1)) + 1 by omega]; rfl
  rw [e, List.range_succ]
  simp
theorem bcells_set (l : Str) (k : Nat) (b : UInt8) : (bcells l).set k (.int .u8 (b.toNat : Int)) = bcells (l.set k b) := by simp [bcells, List.map_set]
theorem bcells_setIf (l : Str) (k : Nat) (b : UInt8) : (bcells l).toArray.setIfInBounds k (.int .u8 (b.toNat : Int)) = (bcells (l.set k b)).toArray := by
  rw [List.setIfInBounds_toArray, bcells_set]

set_option maxHeartbeats 1000000 in
theorem line_any (c : Int) (hc : RawOk c) (w : World) : Calls Tryz.prog 26 #[.int .i64 c] w fun e w' => e = .returned (sv (lineN c)) ∧ Kept no w w' := by
  have hn := pickN_lt c (n := 41) (by decide)
  have hpk := pick_keep c 41 41 rfl hc (by decide) (by decide)
  obtain ⟨hq1, hq2⟩ := tdiv_bd hc
  have h0 := lineAt_zero c
  have hend := lineAt_end c
  have hlen : ∀ k, k ≤ pickN c 41 → (lineAt c k).length = pickN c 41 := fun k hk => lineAt_length c hk
  have hset : ∀ k, k < pickN c 41 → (lineAt c k).set k (lineByte c k) = lineAt c (k + 1) := fun k hk => lineAt_set c hk
  have HS : Hid (∀ k, k < pickN c 41 → (lineAt c k).set k (lineByte c k) = lineAt c (k + 1)) := hset
  have HE : Hid (lineAt c (pickN c 41) = lineN c) := hend
  have HL : Hid (∀ k, k ≤ pickN c 41 → (lineAt c k).length = pickN c 41) := hlen
  have HC : Hid (RawOk c) := hc
  clear hset hend hlen hc
  generalize pickN c 41 = n at *
  have hmk := make_bytes n (by omega)
  rw [← h0] at hmk
  clear h0
  go_enter Tryz.func26, Tryz.ntmps26
  go_wp2_with fail
  refine (hpk w).mono ?_
  rintro e w1 ⟨rfl, hw⟩
  rw [hw]
  clear hw hpk
  go_wp2_with fail
  obtain ⟨hn1, hsz1, hk1⟩ := new1 w (Obj.cells (bcells (lineAt c 0)).toArray 5)
  generalize hG : w.heap.size = g at hn1 hsz1 ⊢
  generalize w.alloc (Obj.cells (bcells (lineAt c 0)).toArray 5) = w1 at hn1 hsz1 hk1 ⊢
  clear hmk
  go_loopw [5] (fun s5 wr => ∃ k : Nat, k ≤ n ∧ s5 = .int .i64 ((k : Nat) : Int) ∧ wr.heap[g]? = some (.cells (bcells (lineAt c k)).toArray 5 (0, 0)) ∧ Kept no w wr) (fun i _ => n - (intOf i).toNat)
  case atStart => exact ⟨0, Nat.zero_le _, rfl, hn1, hk1⟩
  case round =>
    obtain ⟨k, hk, rfl, hh, hkw⟩ := hrel
    have hll := HL.out k hk
    by_cases hlt : k < n
    · have hb : lineByte c k = if pickN (c.tdiv 41 + 7 * (k : Int)) 256 = 10 then 120 else UInt8.ofNat (pickN (c.tdiv 41 + 7 * (k : Int)) 256) := rfl
      have hpk := fun w => pick_keep (c.tdiv 41 + 7 * (k : Int)) 256 256 rfl ⟨by omega, by omega⟩ (by decide) (by decide) w
      have hp := pickN_lt (c.tdiv 41 + 7 * (k : Int)) (n := 256) (by decide)
      go_wp2_with fail
      refine (hpk wr).mono ?_
      rintro e w2 ⟨rfl, hw⟩
      rw [hw]
      clear hw hpk
      generalize pickN (c.tdiv 41 + 7 * (k : Int)) 256 = q at hb hp ⊢
      obtain ⟨hc, hf⟩ := cells_of hh
      obtain ⟨x0, hck⟩ : ∃ x, wr.cell? ⟨g, k, none⟩ = some x := by
        rw [hc, List.getElem?_toArray]
        exact ⟨_, List.getElem?_eq_getElem (by rw [bcells_length]; omega)⟩
      have hfk := hf k
      have hgw : w.heap.size ≤ g := by omega
      clear hc hf
      have HB : Hid (lineByte c k = if q = 10 then 120 else UInt8.ofNat q) := hb
      clear hb
      by_cases h10 : q = 10
      · subst h10
        go_wp2
        refine ⟨⟨k + 1, by omega, by go_num, ?_, ?_⟩, by simp [intOf]; omega⟩
        · have h1 := heap_set_same (o := k) (v := .int .u8 10) hh
          have h2 := heap_set_same (o := k) (v := .int .u8 120) h1
          rw [h2, ← HS.out k hlt, HB.out]
          have h3 := bcells_setIf (lineAt c k) k 120
          simp only [if_true]
          rw [← h3]
          simp
        · exact (hkw.setNew hgw _).setNew hgw _
      · have h10' : ¬ ((q : Int) = 10) := by omega
        go_wp2
        refine ⟨⟨k + 1, by omega, by go_num, ?_, ?_⟩, by simp [intOf]; omega⟩
        · have h1 := heap_set_same (o := k) (v := .int .u8 (q : Int)) hh
          rw [h1, ← HS.out k hlt, HB.out]
          have h3 := bcells_setIf (lineAt c k) k (UInt8.ofNat q)
          simp only [h10, if_false]
          rw [← h3]
          have e : ((UInt8.ofNat q).toNat : Int) = (q : Int) := by simp; omega
          rw [e]
        · exact hkw.setNew hgw _
    · obtain rfl : k = n := by omega
      have hB : BytesAt wr g 0 (lineAt c k) := BytesAt.of_row hh (fun j v h => by simpa using h)
      have hcv := run_bytes_str (P := Tryz.prog) wr 56 9 _ _ _ k _ Tryz.underlying56 Tryz.underlying5 Tryz.underlying9 hB
      rw [hll, HE.out] at hcv
      go_wp2
      go_ret
      exact ⟨rfl, hkw⟩
end Go.Proofs.YtdpfohgkikjeaaaGreat
/- file, one. -/
namespace Go.Proofs.YtdpfohgkikjeaaaGreat
open Go.RowKit
set_option linter.unusedVariables false
set_option linter.unusedSimpArgs false

theorem sv_append (a b : Str) : (⟨a.toArray⟩ : ByteArray) ++ (⟨b.toArray⟩ : ByteArray) = ⟨(a ++ b).toArray⟩ := by
  apply bytes_eq
  simp

set_option maxHeartbeats 1000000 in
theorem file_any {w : World} {B : Nat} {v : Value} {raw : List Int} (hr : IntsAt w B v raw) : Calls Tryz.prog 35 #[v] w fun e w' => e = .returned (sv (textOf (linesN raw))) ∧ Kept no w w' := by
  have hfew := hr.few
  have hfit := hr.fits
  obtain ⟨pv, n, cv, rfl, hn, hcell⟩ : ∃ pv n cv, v = .slice pv n cv ∧ n = raw.length ∧ ∀ W, Kept no w W → ∀ k (h : k < raw.length), ∃ b o, pv = some ⟨b, o, none⟩ ∧ W.cell? ⟨b, o + k, none⟩ = some (.int .i64 raw[k]) := by
    rcases hr.at_ with ⟨a, c, rfl, rfl⟩ | ⟨b, o, c, rfl, hb, hc⟩
    · exact ⟨_, _, _, rfl, rfl, fun W _ k h => by simp at h⟩
    · refine ⟨_, _, _, rfl, rfl, fun W hW k h => ⟨b, o, rfl, ?_⟩⟩
      have hlow := hr.low
      rw [World.cell?_of_block (w := w) (hW.block b (by omega) (fun h => h))]
      exact hc k raw[k] (by simp [h])
  clear hr
  have hsn : ∀ k (h : k < raw.length), (raw.take (k + 1)).map lineN = (raw.take k).map lineN ++ [lineN raw[k]] := fun k h => by
    rw [List.take_succ_eq_append_getElem h, List.map_append]; rfl
  have HS : Hid (∀ k (h : k < raw.length), (raw.take (k + 1)).map lineN = (raw.take k).map lineN ++ [lineN raw[k]]) := hsn
  clear hsn
  have hbd : ∀ k, k ≤ 60 → (textOf ((raw.take k).map lineN)).length ≤ 2460 := fun k hk => by
    have : TextOk ((raw.take k).map lineN) := ⟨by simp only [List.length_map, List.length_take]; omega, fun l hl => by
      simp only [List.mem_map] at hl; obtain ⟨c, _, rfl⟩ := hl; exact lineN_ok c⟩
    exact this.length
  have HN : Hid (n = raw.length) := hn
  have hn' : n ≤ 9223372036854775807 := by omega
  clear hn
  go_enter Tryz.func35, Tryz.ntmps35
  go_wp2_with fail
  go_loopw [3, 4] (fun s3 s4 wr => ∃ k : Nat, k ≤ 60 ∧ k ≤ n ∧ s4 = .int .i64 ((k : Nat) : Int) ∧ s3 = sv (textOf ((raw.take k).map lineN)) ∧ Kept no w wr) (fun _ i _ => 60 - (intOf i).toNat)
  case atStart => exact ⟨0, by omega, by omega, rfl, by simp [textOf], Kept.refl _ _⟩
  case round =>
    obtain ⟨k, hk, hkn, rfl, rfl, hkw⟩ := hrel
    have hbk := hbd k hk
    have hrn := HN.out
    by_cases h1 : k < n
    · by_cases h2 : k < 60
      · have hk2 : k < raw.length := by omega
        obtain ⟨b, o, rfl, hcl⟩ := hcell wr hkw k hk2
        have hok := hfit raw[k] (by simp)
        have hst := HS.out k hk2
        have hlk := (lineN_ok raw[k]).1
        generalize raw[k] = x at hcl hok hst hlk
        have HST : Hid ((raw.take (k + 1)).map lineN = (raw.take k).map lineN ++ [lineN x]) := hst
        clear hst hcell hrn
        go_wp2_with fail
        refine (line_any x hok wr).mono ?_
        rintro e w2 ⟨rfl, hk2⟩
        obtain ⟨t, ht⟩ : ∃ t, t = textOf ((raw.take k).map lineN) := ⟨_, rfl⟩
        rw [← ht] at hbk ⊢
        have HT : Hid (t = textOf ((raw.take k).map lineN)) := ht
        clear ht
        have e1 := sv_append t (lineN x)
        have e2 := sv_append (t ++ lineN x) [10]
        have e3 : (t ++ lineN x).length ≤ 3000 := by rw [List.length_append]; omega
        have e4 : (t ++ lineN x ++ [10]).length ≤ 3000 := by simp only [List.length_append, List.length_cons, List.length_nil]; omega
        clear hbd hfit
        go_wp2
        refine ⟨⟨k + 1, by omega, by omega, by go_num, ?_, hkw.step hk2⟩, by simp [intOf]; omega⟩
        rw [HST.out, textOf_append, ← HT.out]
        simp [textOf]
      · obtain rfl : k = 60 := by omega
        go_wp2
        go_ret
        exact ⟨by simp [linesN], hkw⟩
    · obtain rfl : k = n := by omega
      go_wp2
      go_ret
      refine ⟨?_, hkw⟩
      have e : linesN raw = (raw.take k).map lineN := by rw [linesN, HN.out, List.take_of_length_le (by omega), List.take_of_length_le (Nat.le_refl _)]
      simp [e]

set_option maxHeartbeats 1000000 in
theorem one_any {w : World} {pv : Option Addr} {n cv : Nat} (s : Str) (l : List Str) (hn : n = l.length) (hl : l.length ≤ 140737488355328) (t : Bool) (ht : t = true ↔ s ∈ l) (hr : ∀ k (h : k < l.length), ∃ b o, pv = some ⟨b, o, none⟩ ∧ w.cell? ⟨b, o + k, none⟩ = some (sv l[k])) :
    Calls Tryz.prog 37 #[sv s, .slice pv n cv] w fun e w' => e = .returned (.bool t) ∧ w' = w := by
  have hn' : n ≤ 140737488355328 := by omega
  have HN : Hid (n = l.length) := hn
  clear hn
  go_enter Tryz.func37, Tryz.ntmps37
  go_wp2_with fail
  go_loopw [5] (fun s5 wr => ∃ k : Nat, k ≤ n ∧ s5 = .int .i64 ((k : Nat) : Int) ∧ (∀ x ∈ l.take k, x ≠ s) ∧ wr = w) (fun i _ => n - (intOf i).toNat)
  case atStart => exact ⟨0, by omega, rfl, by simp, rfl⟩
  case round =>
    obtain ⟨k, hk, rfl, hno, rfl⟩ := hrel
    have hrn := HN.out
    by_cases h1 : k < n
    · obtain ⟨b, o, rfl, hcl⟩ := hr k (by omega)
      have hmem : l[k] ∈ l := by simp
      have htk : l.take (k + 1) = l.take k ++ [l[k]] := List.take_succ_eq_append_getElem _
      have HTK : Hid (l.take (k + 1) = l.take k ++ [l[k]]) := htk
      clear htk
      generalize l[k] = x at hcl hmem HTK
      clear hr hrn
      by_cases hx : x = s
      · have hin : Hid (t = true) := ht.2 (by rw [← hx]; exact hmem)
        clear ht
        subst hx
        go_wp2
        go_ret
        exact ⟨by rw [hin.out]; rfl, rfl⟩
      · have hne2 : (x == s) = false := by simpa using hx
        have hno' : ∀ y ∈ l.take (k + 1), y ≠ s := fun y hy => by
          rw [HTK.out] at hy
          rcases List.mem_append.1 hy with hy | hy
          · exact hno y hy
          · simp at hy; rw [hy]; exact hx
        have HX : Hid (x ≠ s) := hx
        have HNO : Hid (∀ y ∈ l.take (k + 1), y ≠ s) := hno'
        clear hx hno hno'
        go_wp2
        exact ⟨⟨k + 1, by omega, by go_num, HNO.out, trivial⟩, by simp [intOf]; omega⟩
    · have hin : Hid (t = false) := by
        show t = false
        cases t with
        | false => rfl
        | true => exact absurd rfl (hno s (by rw [List.take_of_length_le (by omega)]; exact ht.1 rfl))
      clear hno hr ht
      go_wp2
      go_ret
      exact ⟨by rw [hin.out]; rfl, rfl⟩
end Go.Proofs.YtdpfohgkikjeaaaGreat
