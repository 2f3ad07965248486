/- Part 18 of the proof: see its parts. -/
import Derived.Scope
import Derived.ScopeJumps
import Derived.WalkMore
import Derived.Test.YtdpfohgkikjeaaaGreatU17
/- newDoc, Open. -/
namespace Go.Proofs.YtdpfohgkikjeaaaGreat
open Go.RowKit
set_option linter.unusedVariables false
set_option linter.unusedSimpArgs false

/-- A document as newDoc makes it. -/
def DocS.fresh (ls : List Str) (file : Str) (every : Nat) : DocS := ⟨ls, markOf file, every, 0, 0, ⟨false, false, 0, 0⟩, 0, []⟩

set_option maxHeartbeats 2000000 in
set_option maxRecDepth 100000 in
theorem newDoc_any {w : World} {v : Value} {ls : List Str} (hr : Row w 9 1 v ls.length (ls.map sv)) (hok : TextOk ls) (file : Str) (hf : file.length ≤ 1099511627776) (every : Nat) (evI : Int) (hev : evI = (every : Int)) :
    Calls Tryz.prog 74 #[v, .string ⟨file.toArray⟩, .int .i64 evI] w fun e w' => ∃ b fp, e = .returned (.pointer (some ⟨b, 0, none⟩)) ∧ TreeR w' b (docRest (DocS.fresh ls file every) (.slice none 0 0)) docT ls fp ∧ (∀ x ∈ fp, w.heap.size ≤ x) ∧ Kept no w w' := by
  subst hev
  obtain ⟨pv, cv, rfl⟩ := hr.slice
  have hfew := hok.few
  go_enter Tryz.func74, Tryz.ntmps74
  go_wp2_with fail
  refine (markOf_any ⟨file.toArray⟩ _ (by rw [size_mk]; omega)).mono ?_
  rintro e w1 ⟨rfl, hk1⟩
  go_wp2
  obtain ⟨hn2, hsz2, hk2⟩ := new1 w1 (Obj.cells #[.slice none 0 0, .slice none 0 0, .int .i64 0, .int .i64 (file.length : Int), .int .u32 (crc file : Int), .int .i64 (every : Int), .int .i64 0, .int .i64 0, .bool false, .bool false, .int .i64 0, .int .u64 0, .int .i64 0, .slice none 0 0] docT)
  have hs1 := hk1.size
  generalize hB : w1.heap.size = B at hn2 hsz2 hs1 ⊢
  generalize w1.alloc (Obj.cells #[.slice none 0 0, .slice none 0 0, .int .i64 0, .int .i64 (file.length : Int), .int .u32 (crc file : Int), .int .i64 (every : Int), .int .i64 0, .int .i64 0, .bool false, .bool false, .int .i64 0, .int .u64 0, .int .i64 0, .slice none 0 0] docT) = w2 at hn2 hsz2 hk2 ⊢
  have hk02 : Kept no w w2 := hk1.step hk2
  have hT2 : TreeR w2 B (docRest (DocS.fresh ls file every) (.slice none 0 0)) docT [] [B] := by
    refine ⟨0, 0, ⟨.slice none 0 0, ?_, Row.nilrow _ _, rfl, by simp⟩, fun h => absurd rfl h, by decide⟩
    rw [hn2]
    rfl
  go_loopw [17] (fun i wr => ∃ j fp, j ≤ ls.length ∧ i = .int .i64 ((j : Nat) : Int) ∧ TreeR wr B (docRest (DocS.fresh ls file every) (.slice none 0 0)) docT (ls.take j) fp ∧ (∀ x ∈ fp, w.heap.size ≤ x) ∧ Kept no w wr) (fun i _ => ls.length - (intOf i).toNat)
  case atStart => exact ⟨0, [B], Nat.zero_le _, rfl, hT2, fun x hx => by simp at hx; omega, hk02⟩
  case round =>
    obtain ⟨j, fp, hj, rfl, hT, hfp, hkw⟩ := hrel
    by_cases hlt : j < ls.length
    · have hrr := hr.kept hkw (fun _ _ h => h)
      rcases hrr.shape with ⟨_, h1, _⟩ | ⟨g, c', hv, _, _⟩
      · omega
      simp only [Value.slice.injEq, true_and] at hv
      obtain ⟨rfl, rfl⟩ := hv
      obtain ⟨_, _, _, hcell⟩ := hrr.cell
      have hcj := hcell j (sv ls[j]) (by simp [hlt])
      clear hcell
      have hlj := hok.lines ls[j] (List.getElem_mem hlt)
      have htk : Hid (ls.take (j + 1) = ls.take j ++ [ls[j]]) := List.take_succ_eq_append_getElem hlt
      have hlen : (ls.take j).length = j := by rw [List.length_take]; omega
      obtain ⟨vi, vk, hb⟩ := hT.count
      rw [hlen] at hb
      have hput := put_any hT j ((j : Nat) : Int) rfl (by omega) (by omega) ls[j] (by have := hlj.1; omega)
      rw [List.take_of_length_le (by omega : (ls.take j).length ≤ j), List.drop_eq_nil_of_le (by omega : (ls.take j).length ≤ j)] at hput
      generalize ls[j] = x at hcj htk hput hlj
      clear hlen
      go_wp2_with fail
      refine (len_any hb).mono ?_
      rintro e w3 ⟨rfl, hw⟩
      rw [hw]
      clear hw
      go_wp2_with fail
      refine hput.mono ?_
      rintro e w3 ⟨rfl, fp', hT3, hsub, hk3⟩
      go_wp2
      go_roundw
      case rel =>
        refine ⟨j + 1, fp', hlt, by go_num, by rw [htk.out]; exact hT3, fun y hy => ?_, hkw.step' hk3 (fun y hy hlt => by have := hfp y hy; omega)⟩
        rcases hsub y hy with h1 | h1
        · exact hfp y h1
        · exact Nat.le_trans hkw.size h1
      case measure => simp [intOf]; omega
    · have htk : ls.take j = ls := List.take_of_length_le (by omega)
      rw [htk] at hT
      clear htk
      go_wp2
      go_ret
      exact ⟨B, fp, rfl, hT, hfp, hkw⟩

/-- What Open answers. -/
theorem open_arg (file : Str) (n : Int) (w : World) (h : n < 1 ∨ 20 < n) : Calls Tryz.prog 36 #[.string ⟨file.toArray⟩, .int .i64 n] w fun e w' => e = .returned (.tuple #[.pointer none, .int .i64 1]) ∧ w' = w := by
  by_cases h1 : n < 1
  · have hd : decide (n < 1) = true := by simpa using h1
    clear h
    go_enter Tryz.func36, Tryz.ntmps36
    go_wp2
    go_ret2
    exact ⟨rfl, rfl⟩
  · have hd : decide (n < 1) = false := by simpa using h1
    have h2 : 20 < n := by omega
    clear h
    go_enter Tryz.func36, Tryz.ntmps36
    go_wp2
    go_ret2
    exact ⟨rfl, rfl⟩

theorem open_text (file : Str) (hf : file.length ≤ 1099511627776) (n : Int) (w : World) (h1 : 1 ≤ n) (h2 : n ≤ 20) (hn : ¬ IsText file) : Calls Tryz.prog 36 #[.string ⟨file.toArray⟩, .int .i64 n] w fun e w' => e = .returned (.tuple #[.pointer none, .int .i64 2]) ∧ Kept no w w' := by
  have hd : decide (n < 1) = false := by simp; omega
  have hd2 : decide (20 < n) = false := by simp; omega
  have hcut := (cut_any file w hf).mono (R' := fun e w' => e = .returned (.tuple #[.slice none 0 0, .bool false]) ∧ Kept no w w') (fun e w' ⟨hh, hk⟩ => by
    rcases hh with ⟨ls, v, hok, hls, _⟩ | ⟨_, he⟩
    · exact absurd ⟨ls, hok, hls⟩ hn
    · exact ⟨he, hk⟩)
  go_enter Tryz.func36, Tryz.ntmps36
  go_wp2_with fail
  refine hcut.mono ?_
  rintro e w1 ⟨rfl, hk⟩
  go_wp2
  go_ret2
  exact ⟨rfl, hk⟩

set_option maxHeartbeats 1000000 in
theorem open_yes (ls : List Str) (hok : TextOk ls) (n : Nat) (nI : Int) (hnI : nI = (n : Int)) (w : World) (h1 : 1 ≤ n) (h2 : n ≤ 20) : Calls Tryz.prog 36 #[.string ⟨(textOf ls).toArray⟩, .int .i64 nI] w fun e w' => ∃ b fp, e = .returned (.tuple #[.pointer (some ⟨b, 0, none⟩), .int .i64 0]) ∧ DocR w' b (DocS.fresh ls (textOf ls) n).beginSync fp ∧ (∀ x ∈ fp, w.heap.size ≤ x) ∧ Kept no w w' := by
  subst hnI
  have hd : decide ((n : Int) < 1) = false := by simp; omega
  have hd2 : decide (20 < (n : Int)) = false := by simp; omega
  have hlen := hok.length
  have hcut := (cut_any (textOf ls) w (by omega)).mono (R' := fun e w' => ∃ v, e = .returned (.tuple #[v, .bool true]) ∧ Row w' 9 1 v ls.length (ls.map sv) ∧ Kept no w w') (fun e w' ⟨hh, hk⟩ => by
    rcases hh with ⟨ls', v, hok', hls, he, hr, _⟩ | ⟨hno, _⟩
    · have e1 : ls' = ls := textOf_inj (fun l hl => (hok'.lines l hl).2) (fun l hl => (hok.lines l hl).2) hls
      subst e1
      exact ⟨v, he, hr, hk⟩
    · exact absurd ⟨ls, hok, rfl⟩ hno)
  generalize textOf ls = file at hcut hlen ⊢
  go_enter Tryz.func36, Tryz.ntmps36
  go_wp2_with fail
  refine hcut.mono ?_
  rintro e w1 ⟨v, rfl, hr, hk1⟩
  go_wp2_with fail
  refine (newDoc_any hr hok file (by omega) n _ rfl).mono ?_
  rintro e w2 ⟨b, fp, rfl, hT, hfp, hk2⟩
  have hbase : (DocS.fresh ls file n).Base := ⟨hok, h1, h2, by show 0 ≤ 1; omega, by show 0 < 18446744073709551616; omega, crc_lt _, by simp only [DocS.fresh, markOf]; omega, by simp only [DocS.fresh, markOf]; omega⟩
  go_wp2_with fail
  refine (beginSync_any (d := DocS.fresh ls file n) hT hbase).mono ?_
  rintro e w3 ⟨rfl, v3, afp, hT3, hA3, hf3, hk3⟩
  go_wp2
  go_ret2
  have hs1 := hk1.size
  have hs2 := hk2.size
  refine ⟨b, fp ++ afp, rfl, ⟨v3, fp, afp, ⟨hT3, hA3, fun x hx hx2 => ?_, hbase.sync_ok⟩, rfl⟩, fun x hx => ?_, ?_⟩
  · have := hf3 x hx; have := hT.lt x hx2; omega
  · rcases List.mem_append.1 hx with hx | hx
    · have := hfp x hx; omega
    · have := hf3 x hx; omega
  · exact (hk1.step hk2).step' hk3 (fun x hx hlt => by have := hfp x (hx ▸ hT.mem); omega)
end Go.Proofs.YtdpfohgkikjeaaaGreat
/- readBody. -/
namespace Go.Proofs.YtdpfohgkikjeaaaGreat
open Go.RowKit
set_option linter.unusedVariables false
set_option linter.unusedSimpArgs false

/-- Sectors as an image. -/
def imgOf (secs : List Str) : Img := fun i => (secs[i]?).getD []

theorem flat_body (secs : List Str) (h : Nat) (hl : secs.length = 400) (hh : h ≤ 1) : ((secs.drop (40 * h + 1)).take 39).flatten = bodyOf (imgOf secs) h := by
  unfold bodyOf
  congr 1
  refine List.ext_getElem (by simp; omega) (fun i h1 h2 => ?_)
  simp at h2
  simp [imgOf]
  rw [List.getElem?_eq_getElem (by omega)]
  rfl

/-- What readBody answers. -/
def bodyTo (img : Img) (h : Nat) (m : Mark) : Str × Bool :=
  if m.len < 0 ∨ ((bodyOf img h).length : Int) < m.len then ([], false) else ((bodyOf img h).take m.len.toNat, decide (crc ((bodyOf img h).take m.len.toNat) = m.sum))

theorem StrsAt.drop {w : World} {b o : Nat} {l : List Str} (h : StrsAt w b o l) (k : Nat) : StrsAt w b (o + k) (l.drop k) := fun j s hs => by
  rw [List.getElem?_drop] at hs
  have := h (k + j) s hs
  rwa [← Nat.add_assoc] at this
theorem StrsAt.take {w : World} {b o : Nat} {l : List Str} (h : StrsAt w b o l) (k : Nat) : StrsAt w b o (l.take k) := fun j s hs => by
  rw [List.getElem?_take] at hs
  split at hs
  · exact h j s hs
  · cases hs

theorem flatten_length {l : List Str} {n : Nat} (h : ∀ s ∈ l, s.length = n) : l.flatten.length = n * l.length := by
  induction l with
  | nil => rfl
  | cons a l ih => simp [h a (by simp), ih (fun s hs => h s (by simp [hs])), Nat.mul_add]; omega

set_option maxHeartbeats 2000000 in
set_option maxRecDepth 100000 in
theorem readBody_any (b o cap : Nat) (secs : List Str) (h : Nat) (hI : Int) (hhI : hI = (h : Int)) (m : Mark) (w : World) (hs : StrsAt w b o secs) (hl : secs.length = 400) (h64 : ∀ s ∈ secs, s.length = 64) (hcap : 400 ≤ cap) (hcm : cap ≤ 9223372036854775807) (hh : h ≤ 1) (hbl : b < w.heap.size) :
    Calls Tryz.prog 105 #[.slice (some ⟨b, o, none⟩) 400 cap, .int .i64 hI, .agg #[.int .i64 m.len, .int .u32 (m.sum : Int)]] w fun e w' => e = .returned (.tuple #[sv (bodyTo (imgOf secs) h m).1, .bool (bodyTo (imgOf secs) h m).2]) ∧ Kept no w w' := by
  subst hhI
  have hfl := flat_body secs h hl hh
  have hbs : ((secs.drop (40 * h + 1)).take 39).length = 39 := by rw [List.length_take, List.length_drop]; omega
  have hblen : (bodyOf (imgOf secs) h).length = 2496 := by rw [← hfl, flatten_length (n := 64) (fun s hs' => h64 s (List.mem_of_mem_drop (List.mem_of_mem_take hs'))), hbs]
  go_enter Tryz.func105, Tryz.ntmps105
  go_wp2_with fail
  obtain ⟨hn1, hsz1, hk1⟩ := new1 w (Obj.cells #[.int .i64 m.len, .int .u32 (m.sum : Int)] 93)
  have hs1 := hs.kept hk1 (fun h => h)
  generalize hB : w.heap.size = B at hn1 hsz1 hbl ⊢
  generalize w.alloc (Obj.cells #[.int .i64 m.len, .int .u32 (m.sum : Int)] 93) = w1 at hn1 hsz1 hk1 hs1 ⊢
  refine (bodyAt_any (h : Int) w1 (by omega) (by omega)).mono ?_
  rintro e w2 ⟨rfl, hw⟩
  rw [hw]
  clear hw
  go_wp2_with fail
  refine (bodyAt_any (h : Int) w1 (by omega) (by omega)).mono ?_
  rintro e w2 ⟨rfl, hw⟩
  rw [hw]
  clear hw
  obtain ⟨p, hp⟩ : ∃ p : Nat, p = 40 * h + 1 := ⟨_, rfl⟩
  have hpI : (h : Int) * 40 + 1 = (p : Int) := by omega
  rw [hpI]
  have hp1 : p + 39 ≤ 400 := by omega
  have hwr : IntKind.i64.wrap ((p : Int) + 39) = (p : Int) + 39 := by rw [IntKind.wrap_i64]; omega
  have hi1 : (p : Int) ≤ (p : Int) + 39 := by omega
  have hi2 : (p : Int) + 39 ≤ (cap : Int) := by omega
  have hpc : ¬ (cap = p) := by omega
  have HP : Hid (p = 40 * h + 1) := hp
  clear hp hpI
  go_wp2_with fail
  rw [← HP.out] at hfl hbs
  have hfll : ((secs.drop p).take 39).flatten.length ≤ 140737488355328 := by rw [hfl, hblen]; omega
  refine (join_any b (o + p) 39 (cap - p) 39 ((secs.drop p).take 39) w1 hbs ((hs1.drop p).take 39) (by omega) (by omega) (by omega) hfll).mono ?_
  rintro e w2 ⟨rfl, hk2⟩
  rw [hfl]
  have hn2 := hk2.get hn1 (fun h => h)
  obtain ⟨hc2, _⟩ := cells_of hn2
  have hk02 : Kept no w w2 := hk1.step hk2
  have hbt : bodyTo (imgOf secs) h m = if m.len < 0 ∨ ((bodyOf (imgOf secs) h).length : Int) < m.len then ([], false) else ((bodyOf (imgOf secs) h).take m.len.toNat, decide (crc ((bodyOf (imgOf secs) h).take m.len.toNat) = m.sum)) := rfl
  generalize bodyOf (imgOf secs) h = T at hblen hbt ⊢
  have hTl : (T.length : Int) = 2496 := by omega
  clear hfl hbs hfll hs1 hs hk2
  by_cases h0 : m.len < 0
  · have hd : decide (m.len < 0) = true := by simpa using h0
    rw [if_pos (.inl h0)] at hbt
    have HB : Hid (bodyTo (imgOf secs) h m = ([], false)) := hbt
    clear hbt
    go_wp2
    go_ret2
    rw [HB.out]
    exact ⟨rfl, hk02⟩
  · have hd : decide (m.len < 0) = false := by simpa using h0
    by_cases h1 : (T.length : Int) < m.len
    · rw [if_pos (.inr h1)] at hbt
      have HB : Hid (bodyTo (imgOf secs) h m = ([], false)) := hbt
      clear hbt
      have hd1 : decide ((T.length : Int) < m.len) = true := by simpa using h1
      have h1' : (2496 : Int) < m.len := by omega
      go_wp2
      go_ret2
      rw [HB.out]
      exact ⟨rfl, hk02⟩
    · rw [if_neg (by omega)] at hbt
      have hd1 : decide ((T.length : Int) < m.len) = false := by simpa using h1
      have h1' : ¬ (2496 : Int) < m.len := by omega
      obtain ⟨n, hn⟩ := Int.eq_ofNat_of_zero_le (by omega : 0 ≤ m.len)
      obtain ⟨ml, ms⟩ := m
      simp only at hn
      subst hn
      simp only [Int.toNat_natCast] at hbt
      have hnT : n ≤ 2496 := by simp only at h1'; omega
      simp only at hc2 hd hd1 h1' h0 h1
      have HB : Hid (bodyTo (imgOf secs) h ⟨(n : Int), ms⟩ = (T.take n, decide (crc (T.take n) = ms))) := hbt
      clear hbt
      go_wp2_with fail
      have hex : ({ data := T.toArray } : ByteArray).extract 0 n = ⟨(T.take n).toArray⟩ := by
        rw [extract_list]
        rfl
      rw [hex]
      have hlt : (T.take n).length ≤ 2496 := by rw [List.length_take]; omega
      generalize T.take n = t at hlt HB ⊢
      have heq : ((crc t : Int) == (ms : Int)) = decide (crc t = ms) := by rw [Bool.eq_iff_iff]; simp; omega
      refine wp_region4 (fun W => W.heap[B]? = some (.cells #[.int .i64 (n : Int), .int .u32 (ms : Int)] 93 (0, 0))) [(0, true), (1, true), (3, true), (4, false)] 4 (by kernel_rfl) (by kernel_rfl) (fun _ _ d _ _ h => by cases d <;> exact h) hn2 ?_
      repeat ((first | refine wpPre3_pure rfl rfl (fun W => (by go_simp; rfl)) ?_ | refine wpPre3_read rfl rfl (fun W hW => (by obtain ⟨hc, _⟩ := cells_of hW; go_simp; rfl)) ?_); simp only [Act.put, List.setIfInBounds_toArray, List.set])
      refine wpPre3_nil ?_
      refine wpGo3_one 2 (by kernel_rfl) (OpTo.mk rfl rfl (fun K hK => ?_))
      go_wp2_with fail
      refine (sum_any ⟨t.toArray⟩ _ (by rw [size_mk]; omega)).mono ?_
      rintro e w3 ⟨rfl, hw⟩
      rw [hw]
      clear hw
      refine hK _ _ ⟨fun h => h, ?_⟩
      clear hK
      refine wpGo3_two 5 6 (by kernel_rfl) (OpTo.mk rfl rfl (fun K hK => ?_)) (OpTo.mk rfl rfl (fun K hK => ?_))
      · go_wp2_with fail
        try refine ⟨fun h => h, ?_⟩
        refine wpGo3_one 6 (by kernel_rfl) (OpTo.mk rfl rfl (fun K hK => ?_))
        go_wp2_with fail
        try refine ⟨fun h => h, ?_⟩
        refine wpGo3_one 7 (by kernel_rfl) (OpTo.mk rfl rfl (fun K hK => ?_))
        go_wp2_with fail
        try refine ⟨fun h => h, ?_⟩
        refine wpGo3_nil (by kernel_rfl) ?_
        go_wp2
        go_ret2
        rw [HB.out]
        exact ⟨rfl, hk02.drew⟩
      · go_wp2_with fail
        try refine ⟨fun h => h, ?_⟩
        refine wpGo3_one 5 (by kernel_rfl) (OpTo.mk rfl rfl (fun K hK => ?_))
        go_wp2_with fail
        try refine ⟨fun h => h, ?_⟩
        refine wpGo3_one 7 (by kernel_rfl) (OpTo.mk rfl rfl (fun K hK => ?_))
        go_wp2_with fail
        try refine ⟨fun h => h, ?_⟩
        refine wpGo3_nil (by kernel_rfl) ?_
        go_wp2
        go_ret2
        rw [HB.out]
        exact ⟨rfl, hk02.drew⟩
end Go.Proofs.YtdpfohgkikjeaaaGreat
/- A scope with several labels; isText; Find. -/
namespace Go.Proofs.YtdpfohgkikjeaaaGreat
open Go.RowKit
set_option linter.unusedVariables false
set_option linter.unusedSimpArgs false

/-- As Q; by a goto to a label: what is asked there. -/
def jumpsTo (J : Nat → Act → World → Prop) (Q : Exit → Act → World → Prop) : Exit → Act → World → Prop
  | .goto l, a, w => J l a w
  | e, a, w => Q e a w

section
variable {P : Program} {a : Act} {w : World} {Q : Exit → Act → World → Prop}

theorem wp_scope_all {c : Code} (J : Nat → Act → World → Prop) (μ : Nat → Act → Nat)
    (first : c.wp P (jumpsTo J Q) a w)
    (pass : ∀ l a w, J l a w → ∃ rest, findLabel c l = some rest ∧ rest.wp P (jumpsTo (fun l' a' w' => J l' a' w' ∧ μ l' a' < μ l a) Q) a w) : (Code.scope c).wp P Q a w := by
  intro b k cs
  have key : ∀ n l a w, μ l a = n → J l a w → ∃ rest, findLabel c l = some rest ∧ ∃ e a' w', Q e a' w' ∧ Arrives P (lone (b.at a (.code rest :: .inScope c :: k)) cs w) b k cs e a' w' := by
    intro n
    induction n using Nat.strongRecOn with
    | _ n ih =>
      intro l a w hn hJ
      obtain ⟨rest, hf, hrest⟩ := pass l a w hJ
      refine ⟨rest, hf, ?_⟩
      obtain ⟨e, a₁, w₁, hq, harr⟩ := hrest b (.inScope c :: k) cs
      cases e with
      | normal => exact ⟨.normal, a₁, w₁, hq, Steps.trans harr (.one step_inScope)⟩
      | exit id => exact ⟨.exit id, a₁, w₁, hq, fun k' hk => harr k' (by simp [exitTo, hk])⟩
      | goto l' =>
        obtain ⟨hJ', hlt⟩ := hq
        obtain ⟨rest', hf', e₂, a₂, w₂, hq₂, harr₂⟩ := ih _ (by omega) l' a₁ w₁ rfl hJ'
        have hg : gotoIn l' (.inScope c :: k) = some (.code rest' :: .inScope c :: k) := by simp [gotoIn, hf']
        exact ⟨e₂, a₂, w₂, hq₂, .of_steps (harr _ hg) harr₂⟩
      | ret => exact ⟨_, a₁, w₁, hq, harr⟩
      | panic ch => exact ⟨_, a₁, w₁, hq, harr⟩
      | outgrown => exact ⟨_, a₁, w₁, hq, harr⟩
  obtain ⟨e, a₁, w₁, hq, harr⟩ := first b (.inScope c :: k) cs
  cases e with
  | normal => exact ⟨.normal, a₁, w₁, hq, .head step_scope (Steps.trans harr (.one step_inScope))⟩
  | exit id => exact ⟨.exit id, a₁, w₁, hq, fun k' hk => .head step_scope (harr k' (by simp [exitTo, hk]))⟩
  | goto l' =>
    obtain ⟨rest', hf', e₂, a₂, w₂, hq₂, harr₂⟩ := key _ l' a₁ w₁ rfl hq
    have hg : gotoIn l' (.inScope c :: k) = some (.code rest' :: .inScope c :: k) := by simp [gotoIn, hf']
    exact ⟨e₂, a₂, w₂, hq₂, .of_steps (.head step_scope (harr _ hg)) harr₂⟩
  | ret => exact ⟨_, a₁, w₁, hq, .of_steps (.one step_scope) harr⟩
  | panic ch => exact ⟨_, a₁, w₁, hq, .of_steps (.one step_scope) harr⟩
  | outgrown => exact ⟨_, a₁, w₁, hq, .of_steps (.one step_scope) harr⟩
end

theorem isText_any (s : Str) (w : World) (hs : s.length ≤ 1099511627776) (t : Bool) (ht : t = true ↔ IsText s) : Calls Tryz.prog 79 #[.string ⟨s.toArray⟩] w fun e w' => e = .returned (.bool t) ∧ Kept no w w' := by
  have hcut := (cut_any s w hs).mono (R' := fun e w' => ∃ v, e = .returned (.tuple #[v, .bool t]) ∧ Kept no w w') (fun e w' ⟨hh, hk⟩ => by
    rcases hh with ⟨ls, v, hok, hls, he, _⟩ | ⟨hno, he⟩
    · have : t = true := ht.2 ⟨ls, hok, hls⟩
      subst this
      exact ⟨v, he, hk⟩
    · have : t = false := by cases t with
        | false => rfl
        | true => exact absurd (ht.1 rfl) hno
      subst this
      exact ⟨_, he, hk⟩)
  go_enter Tryz.func79, Tryz.ntmps79
  go_wp2_with fail
  refine hcut.mono ?_
  rintro e w1 ⟨v, rfl, hk⟩
  go_wp2
  go_ret
  exact ⟨rfl, hk⟩

end Go.Proofs.YtdpfohgkikjeaaaGreat
