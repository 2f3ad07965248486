/- Part 6 of the proof: see its parts. -/
import Derived.Shelf.Strings.OnBuilder
import Derived.Shelf.Strings.BuilderK
import Derived.Shelf.LaysM
import Derived.Shelf.Strconv.Clone
import Derived.Shelf.Strings.Search3
import Derived.Shelf.Slices.Clone
import Derived.Shelf.Slices.Delete
import Derived.Shelf.SlicesE.Delete
import Derived.Shelf.SlicesE.Clone
import Derived.Test.YtdpfohgkikjeaaaGreatV3
import Derived.Test.YtdpfohgkikjeaaaGreatV5
/- The library's contracts, laid over this program: tables of numbers, and applications. -/
namespace Go.Proofs
open Go.Shelf
def Tryz.lays156_ren : Go.Shelf.Ren := ⟨fun | 156 => 133 | 165 => 144 | 166 => 50 | 169 => 51 | 240 => 82 | 241 => 153 | 276 => 106 | 277 => 158 | n => n, fun | 31 => 34 | 9 => 9 | 3 => 3 | 4 => 4 | 0 => 0 | 20 => 20 | 72 => 106 | 76 => 112 | 70 => 104 | 37 => 56 | 75 => 111 | 127 => 140 | 164 => 170 | 5 => 5 | 80 => 53 | n => n, fun | n => n⟩
theorem Tryz.lays156 : Go.Proofs.Lays.n156 Tryz.prog Tryz.lays156_ren := {
  mixed := by kernel_rfl
  f156 := Tryz.func133.trans (congrArg some (by kernel_rfl))
  f165 := Tryz.func144.trans (congrArg some (by kernel_rfl))
  f166 := Tryz.func50.trans (congrArg some (by kernel_rfl))
  f169 := Tryz.func51.trans (congrArg some (by kernel_rfl))
  f240 := Tryz.func82.trans (congrArg some (by kernel_rfl))
  f241 := Tryz.func153.trans (congrArg some (by kernel_rfl))
  f276 := Tryz.func106.trans (congrArg some (by kernel_rfl))
  f277 := Tryz.func158.trans (congrArg some (by kernel_rfl))
  t0 := Tryz.underlying0
  a0 := Tryz.isAgg0
  z0 := Tryz.sizeOf0
  v0 := Tryz.zeroValue0
  t3 := Tryz.underlying3
  a3 := Tryz.isAgg3
  z3 := Tryz.sizeOf3
  v3 := Tryz.zeroValue3
  t4 := Tryz.underlying4
  a4 := Tryz.isAgg4
  z4 := Tryz.sizeOf4
  v4 := Tryz.zeroValue4
  t9 := Tryz.underlying9
  a9 := Tryz.isAgg9
  z9 := Tryz.sizeOf9
  v9 := Tryz.zeroValue9
  t20 := Tryz.underlying20
  a20 := Tryz.isAgg20
  z20 := Tryz.sizeOf20
  v20 := Tryz.zeroValue20
  t31 := Tryz.underlying34
  a31 := Tryz.isAgg34
  z31 := Tryz.sizeOf34
  v31 := Tryz.zeroValue34
  t37 := Tryz.underlying56
  a37 := Tryz.isAgg56
  z37 := Tryz.sizeOf56
  v37 := Tryz.zeroValue56
  t70 := Tryz.underlying104
  a70 := Tryz.isAgg104
  z70 := Tryz.sizeOf104
  v70 := Tryz.zeroValue104
  t72 := Tryz.underlying106
  a72 := Tryz.isAgg106
  z72 := Tryz.sizeOf106
  v72 := Tryz.zeroValue106
  t75 := Tryz.underlying111
  a75 := Tryz.isAgg111
  z75 := Tryz.sizeOf111
  v75 := Tryz.zeroValue111
  t76 := Tryz.underlying112
  a76 := Tryz.isAgg112
  z76 := Tryz.sizeOf112
  v76 := Tryz.zeroValue112
  t127 := Tryz.underlying140
  a127 := Tryz.isAgg140
  z127 := Tryz.sizeOf140
  v127 := Tryz.zeroValue140
  t164 := Tryz.underlying170
  a164 := Tryz.isAgg170
  z164 := Tryz.sizeOf170
  v164 := Tryz.zeroValue170 }
theorem Tryz.Builder_Extra_156 : Builder.Extra Tryz.prog Tryz.lays156_ren := {
  sizeBuilder := by kernel_rfl
  liesBuilder := by kernel_rfl
  t5 := Tryz.underlying5
  a5 := Tryz.isAgg5
  z5 := Tryz.sizeOf5
  v5 := Tryz.zeroValue5
  infoByte := by kernel_rfl
  cellsByte := by kernel_rfl
  sizeByte := by kernel_rfl
  neB5 := by decide }
def Tryz.laysM316_ren : Go.Shelf.Ren := ⟨fun | 316 => 100 | n => n, fun | 9 => 9 | 3 => 3 | 4 => 4 | 37 => 56 | 0 => 0 | 127 => 140 | 5 => 5 | n => n, fun | n => n⟩
theorem Tryz.laysM316 : Go.Proofs.LaysM.n316 Tryz.prog Tryz.laysM316_ren := {
  mixed := by kernel_rfl
  f316 := Tryz.func100.trans (congrArg some (by kernel_rfl))
  t0 := Tryz.underlying0
  a0 := Tryz.isAgg0
  z0 := Tryz.sizeOf0
  v0 := Tryz.zeroValue0
  t3 := Tryz.underlying3
  a3 := Tryz.isAgg3
  z3 := Tryz.sizeOf3
  v3 := Tryz.zeroValue3
  t4 := Tryz.underlying4
  a4 := Tryz.isAgg4
  z4 := Tryz.sizeOf4
  v4 := Tryz.zeroValue4
  t9 := Tryz.underlying9
  a9 := Tryz.isAgg9
  z9 := Tryz.sizeOf9
  v9 := Tryz.zeroValue9
  t37 := Tryz.underlying56
  a37 := Tryz.isAgg56
  z37 := Tryz.sizeOf56
  v37 := Tryz.zeroValue56
  t127 := Tryz.underlying140
  a127 := Tryz.isAgg140
  z127 := Tryz.sizeOf140
  v127 := Tryz.zeroValue140
  t5 := Tryz.underlying5
  a5 := Tryz.isAgg5
  z5 := Tryz.sizeOf5
  v5 := Tryz.zeroValue5
  i0 := by kernel_rfl
  i3 := by kernel_rfl
  i4 := by kernel_rfl
  i5 := by kernel_rfl
  i9 := by kernel_rfl
  i37 := by kernel_rfl
  i127 := by kernel_rfl }
def Tryz.lays144_ren : Go.Shelf.Ren := ⟨fun | 144 => 84 | 143 => 111 | 219 => 137 | 217 => 147 | 225 => 148 | 224 => 149 | 267 => 150 | 266 => 155 | 314 => 156 | n => n, fun | 9 => 9 | 4 => 4 | 3 => 3 | 5 => 5 | 46 => 205 | 146 => 211 | 51 => 91 | n => n, fun | 1 => 0 | n => n⟩
theorem Tryz.lays144 : Go.Proofs.Lays.n144 Tryz.prog Tryz.lays144_ren := {
  mixed := by kernel_rfl
  f143 := Tryz.func111.trans (congrArg some (by kernel_rfl))
  f144 := Tryz.func84.trans (congrArg some (by kernel_rfl))
  f217 := Tryz.func147.trans (congrArg some (by kernel_rfl))
  f219 := Tryz.func137.trans (congrArg some (by kernel_rfl))
  f224 := Tryz.func149.trans (congrArg some (by kernel_rfl))
  f225 := Tryz.func148.trans (congrArg some (by kernel_rfl))
  f266 := Tryz.func155.trans (congrArg some (by kernel_rfl))
  f267 := Tryz.func150.trans (congrArg some (by kernel_rfl))
  f314 := Tryz.func156.trans (congrArg some (by kernel_rfl))
  t3 := Tryz.underlying3
  a3 := Tryz.isAgg3
  z3 := Tryz.sizeOf3
  v3 := Tryz.zeroValue3
  t4 := Tryz.underlying4
  a4 := Tryz.isAgg4
  z4 := Tryz.sizeOf4
  v4 := Tryz.zeroValue4
  t5 := Tryz.underlying5
  a5 := Tryz.isAgg5
  z5 := Tryz.sizeOf5
  v5 := Tryz.zeroValue5
  t9 := Tryz.underlying9
  a9 := Tryz.isAgg9
  z9 := Tryz.sizeOf9
  v9 := Tryz.zeroValue9
  t46 := Tryz.underlying205
  a46 := Tryz.isAgg205
  z46 := Tryz.sizeOf205
  v46 := Tryz.zeroValue205
  t51 := Tryz.underlying91
  a51 := Tryz.isAgg91
  z51 := Tryz.sizeOf91
  v51 := Tryz.zeroValue91
  t146 := Tryz.underlying211
  a146 := Tryz.isAgg211
  z146 := Tryz.sizeOf211
  v146 := Tryz.zeroValue211
  g1 := by kernel_rfl }
def Tryz.laysNm216_ren : Go.Shelf.Ren := ⟨fun | 16 => 139 | n => n, fun | 24 => 34 | 9 => 9 | 4 => 4 | n => n, fun | n => n⟩
theorem Tryz.laysNm216 : Go.Proofs.Lays2.n16 Tryz.prog Tryz.laysNm216_ren := {
  mixed := by kernel_rfl
  f16 := Tryz.func139.trans (congrArg some (by kernel_rfl))
  t4 := Tryz.underlying4
  a4 := Tryz.isAgg4
  z4 := Tryz.sizeOf4
  v4 := Tryz.zeroValue4
  t9 := Tryz.underlying9
  a9 := Tryz.isAgg9
  z9 := Tryz.sizeOf9
  v9 := Tryz.zeroValue9
  t24 := Tryz.underlying34
  a24 := Tryz.isAgg34
  z24 := Tryz.sizeOf34
  v24 := Tryz.zeroValue34
  i9 := by kernel_rfl }
def Tryz.laysNm224_ren : Go.Shelf.Ren := ⟨fun | 24 => 108 | n => n, fun | 24 => 34 | 9 => 9 | 3 => 3 | 4 => 4 | 0 => 0 | n => n, fun | n => n⟩
theorem Tryz.laysNm224 : Go.Proofs.Lays2.n24 Tryz.prog Tryz.laysNm224_ren := {
  mixed := by kernel_rfl
  f24 := Tryz.func108.trans (congrArg some (by kernel_rfl))
  t0 := Tryz.underlying0
  a0 := Tryz.isAgg0
  z0 := Tryz.sizeOf0
  v0 := Tryz.zeroValue0
  t3 := Tryz.underlying3
  a3 := Tryz.isAgg3
  z3 := Tryz.sizeOf3
  v3 := Tryz.zeroValue3
  t4 := Tryz.underlying4
  a4 := Tryz.isAgg4
  z4 := Tryz.sizeOf4
  v4 := Tryz.zeroValue4
  t9 := Tryz.underlying9
  a9 := Tryz.isAgg9
  z9 := Tryz.sizeOf9
  v9 := Tryz.zeroValue9
  t24 := Tryz.underlying34
  a24 := Tryz.isAgg34
  z24 := Tryz.sizeOf34
  v24 := Tryz.zeroValue34
  i9 := by kernel_rfl }
end Go.Proofs
/- The library's functions as this program calls them: Join, Clone, Contains, Cut at a line's end. -/
namespace Go.Proofs.YtdpfohgkikjeaaaGreat
open Go.RowKit
set_option linter.unusedVariables false
set_option linter.unusedSimpArgs false

/-- Bytes as a string's value. -/
abbrev sv (l : Str) : Value := .string ⟨l.toArray⟩

theorem sv_of (s : ByteArray) : sv s.data.toList = .string s := rfl

theorem join_flat (xs : List Str) : Go.Lib.join xs [] = xs.flatten := by
  unfold Go.Lib.join
  induction xs with
  | nil => rfl
  | cons x xs ih =>
    cases xs with
    | nil => simp
    | cons y ys => rw [List.intercalate_cons_cons, ih]; simp

theorem join_any (b o n cap : Nat) (nI : Int) (xs : List Str) (w : World) (hn : xs.length = n) (hs : StrsAt w b o xs) (hb : b < w.heap.size) (hc : n ≤ cap) (hN : n ≤ 1000) (hlen : xs.flatten.length ≤ 140737488355328) :
    Calls Tryz.prog 133 #[.slice (some ⟨b, o, none⟩) n cap, .string ⟨#[]⟩] w fun e w' => e = .returned (sv xs.flatten) ∧ Kept no w w' := by
  subst hn
  have h := Any.strings_Join Tryz.lays156 Tryz.Builder_Extra_156 b o cap (xs.map fun x => ⟨x.toArray⟩) ⟨#[]⟩ w (fun j x hx => by
    rw [List.getElem?_map, Option.map_eq_some_iff] at hx
    obtain ⟨y, hy, rfl⟩ := hx
    exact hs j y hy) hb (by simp; omega) (by simpa using hc) (by
      rw [List.map_map]
      have e : (xs.map ((fun x : ByteArray => x.data.toList) ∘ fun x : Str => ⟨x.toArray⟩)) = xs := by simp [Function.comp_def]
      rw [e]
      show (Go.Lib.join xs []).length ≤ _
      rw [join_flat]; exact hlen)
  rw [List.length_map] at h
  refine h.mono fun e w' ⟨he, hb⟩ => ⟨?_, Kept.of_below hb _⟩
  rw [he, List.map_map]
  have e : (xs.map ((fun x : ByteArray => x.data.toList) ∘ fun x : Str => ⟨x.toArray⟩)) = xs := by simp [Function.comp_def]
  rw [e]
  show Ending.returned (.string ⟨(Go.Lib.join xs []).toArray⟩) = _
  rw [join_flat]

set_option maxHeartbeats 400000 in
theorem clone_any (s : ByteArray) (w : World) (hs : s.size ≤ 281474976710656) :
    Calls Tryz.prog 76 #[.string s] w fun e w' => e = .returned (.string s) ∧ Kept no w w' := by
  go_enter Tryz.func76, Tryz.ntmps76
  go_wp2_with (go_at_call 100; refine (Any.stringslite_Clone Tryz.laysM316 _ _ hs).mono ?_; rintro e w' ⟨rfl, hb⟩)
  go_ret
  exact ⟨rfl, Kept.of_below hb _⟩

theorem index_mem (l : Str) (c : UInt8) : (c ∉ l ∧ Go.Lib.indexByte l c = -1) ∨ ∃ a b, l = a ++ c :: b ∧ c ∉ a ∧ Go.Lib.indexByte l c = (a.length : Int) := by
  induction l with
  | nil => exact .inl ⟨by simp, rfl⟩
  | cons x l ih =>
    by_cases hx : x = c
    · subst hx
      exact .inr ⟨[], l, rfl, by simp, by simp [Go.Lib.indexByte]⟩
    · have hne : (x == c) = false := by simpa using hx
      rcases ih with ⟨h1, h2⟩ | ⟨a, b, rfl, h2, h3⟩
      · exact .inl ⟨by simp [h1]; exact fun e => hx e.symm, by simp [Go.Lib.indexByte, hne, h2]⟩
      · refine .inr ⟨x :: a, b, rfl, by simp [h2]; exact fun e => hx e.symm, ?_⟩
        have : (Go.Lib.indexByte (a ++ c :: b) c == -1) = false := by rw [h3]; simp
        simp [Go.Lib.indexByte, hne, this, h3]

theorem contains_any (s : ByteArray) (w : World) :
    Calls Tryz.prog 84 #[.string s, .string ⟨#[10]⟩] w fun e w' => e = .returned (.bool (s.data.toList.contains 10)) ∧ w' = w := by
  refine (Any.strings_Contains_one Tryz.lays144 s 10 w).mono fun e w' ⟨he, hw⟩ => ⟨?_, hw⟩
  rw [he]
  rcases index_mem s.data.toList 10 with ⟨h1, h2⟩ | ⟨a, b, h1, h2, h3⟩
  · rw [h2]; simp [h1]
  · rw [h3, h1]; simp

set_option maxHeartbeats 400000 in
theorem cutlite_any (s : ByteArray) (w : World) (hs : s.size ≤ 140737488355328) :
    Calls Tryz.prog 128 #[.string s, .string ⟨#[10]⟩] w fun e w' => ((∃ a b, s.data.toList = a ++ 10 :: b ∧ 10 ∉ a ∧ e = .returned (.tuple #[sv a, sv b, .bool true])) ∨ (10 ∉ s.data.toList ∧ e = .returned (.tuple #[.string s, .string ⟨#[]⟩, .bool false]))) ∧ ∃ n, w' = w.drewN n := by
  have hsz : s.data.toList.length = s.size := by rw [Array.length_toList]; rfl
  go_enter Tryz.func128, Tryz.ntmps128
  go_wp2_with fail
  refine (Any.stringslite_Index_one { Tryz.lays144 with } s 10 w).mono ?_
  rintro e w' ⟨rfl, rfl⟩
  rcases index_mem s.data.toList 10 with ⟨h1, h2⟩ | ⟨a, b, h1, h2, h3⟩
  · rw [h2]
    go_wp2
    go_ret3
    exact ⟨.inr ⟨h1, rfl⟩, 0, rfl⟩
  · rw [h3]
    have hl : a.length + 1 ≤ s.size := by rw [← hsz, h1]; simp
    have H1 : Hid _ := h1; clear h1
    go_wp2
    go_quiet (fail)
    go_wp2
    go_ret3
    have e1 : s.extract 0 a.length = ⟨a.toArray⟩ := by rw [extract_list, H1.out]; simp
    have e2 : s.extract (a.length + 1) s.size = ⟨b.toArray⟩ := by
      rw [extract_list, ← hsz, List.take_length, H1.out]; simp
    exact ⟨.inl ⟨a, b, H1.out, h2, by rw [e1, e2]; rfl⟩, _, rfl⟩
set_option maxHeartbeats 400000 in
theorem cutstr_any (s : ByteArray) (w : World) (hs : s.size ≤ 140737488355328) :
    Calls Tryz.prog 97 #[.string s, .string ⟨#[10]⟩] w fun e w' => ((∃ a b, s.data.toList = a ++ 10 :: b ∧ 10 ∉ a ∧ e = .returned (.tuple #[sv a, sv b, .bool true])) ∨ (10 ∉ s.data.toList ∧ e = .returned (.tuple #[.string s, .string ⟨#[]⟩, .bool false]))) ∧ ∃ n, w' = w.drewN n := by
  go_enter Tryz.func97, Tryz.ntmps97
  go_wp2_with (go_at_call 128; refine (cutlite_any _ _ hs).mono ?_; rintro e w' ⟨h, nq, rfl⟩; rcases h with ⟨a, b, h1, h2, rfl⟩ | ⟨h1, rfl⟩)
  · go_ret3
    exact ⟨.inl ⟨a, b, h1, h2, rfl⟩, _, rfl⟩
  · go_ret3
    exact ⟨.inr ⟨h1, rfl⟩, _, rfl⟩
end Go.Proofs.YtdpfohgkikjeaaaGreat
