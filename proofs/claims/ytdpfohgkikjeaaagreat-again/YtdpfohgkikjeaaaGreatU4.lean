/- Part 4 of the proof: see its parts. -/
import Derived.Test.YtdpfohgkikjeaaaGreatU1
import Derived.Test.YtdpfohgkikjeaaaGreatU3
/- The library's functions as this program calls them: Join, Clone, Contains, Cut at a line's end. -/
namespace Go.Proofs.YtdpfohgkikjeaaaGreat
open Go.RowKit
set_option linter.unusedVariables false
set_option linter.unusedSimpArgs false

/-- Bytes as a string's value. -/
abbrev sv (l : Str) : Value := .string ⟨l.toArray⟩

theorem sv_of (s : ByteArray) : sv s.data.toList = .string s := rfl

theorem join_flat (xs : List Str) : Go.Lib.join xs [] = xs.flatten := by
  unfold Go.Lib.join
  induction xs with
  | nil => rfl
  | cons x xs ih =>
    cases xs with
    | nil => simp
    | cons y ys => rw [List.intercalate_cons_cons, ih]; simp

theorem join_any (b o n cap : Nat) (nI : Int) (xs : List Str) (w : World) (hn : xs.length = n) (hs : StrsAt w b o xs) (hb : b < w.heap.size) (hc : n ≤ cap) (hN : n ≤ 1000) (hlen : xs.flatten.length ≤ 140737488355328) :
    Calls Tryz.prog 133 #[.slice (some ⟨b, o, none⟩) n cap, .string ⟨#[]⟩] w fun e w' => e = .returned (sv xs.flatten) ∧ Kept no w w' := by
  subst hn
  have h := Any.strings_Join Tryz.lays156 Tryz.Builder_Extra_156 b o cap (xs.map fun x => ⟨x.toArray⟩) ⟨#[]⟩ w (fun j x hx => by
    rw [List.getElem?_map, Option.map_eq_some_iff] at hx
    obtain ⟨y, hy, rfl⟩ := hx
    exact hs j y hy) hb (by simp; omega) (by simpa using hc) (by
      rw [List.map_map]
      have e : (xs.map ((fun x : ByteArray => x.data.toList) ∘ fun x : Str => ⟨x.toArray⟩)) = xs := by simp [Function.comp_def]
      rw [e]
      show (Go.Lib.join xs []).length ≤ _
      rw [join_flat]; exact hlen)
  rw [List.length_map] at h
  refine h.mono fun e w' ⟨he, hb⟩ => ⟨?_, Kept.of_below hb _⟩
  rw [he, List.map_map]
  have e : (xs.map ((fun x : ByteArray => x.data.toList) ∘ fun x : Str => ⟨x.toArray⟩)) = xs := by simp [Function.comp_def]
  rw [e]
  show Ending.returned (.string ⟨(Go.Lib.join xs []).toArray⟩) = _
  rw [join_flat]

set_option maxHeartbeats 400000 in
theorem clone_any (s : ByteArray) (w : World) (hs : s.size ≤ 281474976710656) :
    Calls Tryz.prog 76 #[.string s] w fun e w' => e = .returned (.string s) ∧ Kept no w w' := by
  go_enter Tryz.func76, Tryz.ntmps76
  go_wp2_with (go_at_call 100; refine (Any.stringslite_Clone Tryz.laysM316 _ _ hs).mono ?_; rintro e w' ⟨rfl, hb⟩)
  go_ret
  exact ⟨rfl, Kept.of_below hb _⟩

theorem index_mem (l : Str) (c : UInt8) : (c ∉ l ∧ Go.Lib.indexByte l c = -1) ∨ ∃ a b, l = a ++ c :: b ∧ c ∉ a ∧ Go.Lib.indexByte l c = (a.length : Int) := by
  induction l with
  | nil => exact .inl ⟨by simp, rfl⟩
  | cons x l ih =>
    by_cases hx : x = c
    · subst hx
      exact .inr ⟨[], l, rfl, by simp, by simp [Go.Lib.indexByte]⟩
    · have hne : (x == c) = false := by simpa using hx
      rcases ih with ⟨h1, h2⟩ | ⟨a, b, rfl, h2, h3⟩
      · exact .inl ⟨by simp [h1]; exact fun e => hx e.symm, by simp [Go.Lib.indexByte, hne, h2]⟩
      · refine .inr ⟨x :: a, b, rfl, by simp [h2]; exact fun e => hx e.symm, ?_⟩
        have : (Go.Lib.indexByte (a ++ c :: b) c == -1) = false := by rw [h3]; simp
        simp [Go.Lib.indexByte, hne, this, h3]

theorem contains_any (s : ByteArray) (w : World) :
    Calls Tryz.prog 84 #[.string s, .string ⟨#[10]⟩] w fun e w' => e = .returned (.bool (s.data.toList.contains 10)) ∧ w' = w := by
  refine (Any.strings_Contains_one Tryz.lays144 s 10 w).mono fun e w' ⟨he, hw⟩ => ⟨?_, hw⟩
  rw [he]
  rcases index_mem s.data.toList 10 with ⟨h1, h2⟩ | ⟨a, b, h1, h2, h3⟩
  · rw [h2]; simp [h1]
  · rw [h3, h1]; simp

set_option maxHeartbeats 400000 in
theorem cutlite_any (s : ByteArray) (w : World) (hs : s.size ≤ 140737488355328) :
    Calls Tryz.prog 128 #[.string s, .string ⟨#[10]⟩] w fun e w' => ((∃ a b, s.data.toList = a ++ 10 :: b ∧ 10 ∉ a ∧ e = .returned (.tuple #[sv a, sv b, .bool true])) ∨ (10 ∉ s.data.toList ∧ e = .returned (.tuple #[.string s, .string ⟨#[]⟩, .bool false]))) ∧ ∃ n, w' = w.drewN n := by
  have hsz : s.data.toList.length = s.size := by rw [Array.length_toList]; rfl
  go_enter Tryz.func128, Tryz.ntmps128
  go_wp2_with fail
  refine (Any.stringslite_Index_one { Tryz.lays144 with } s 10 w).mono ?_
  rintro e w' ⟨rfl, rfl⟩
  rcases index_mem s.data.toList 10 with ⟨h1, h2⟩ | ⟨a, b, h1, h2, h3⟩
  · rw [h2]
    go_wp2
    go_ret3
    exact ⟨.inr ⟨h1, rfl⟩, 0, rfl⟩
  · rw [h3]
    have hl : a.length + 1 ≤ s.size := by rw [← hsz, h1]; simp
    have H1 : Hid _ := h1; clear h1
    go_wp2
    go_quiet (fail)
    go_wp2
    go_ret3
    have e1 : s.extract 0 a.length = ⟨a.toArray⟩ := by rw [extract_list, H1.out]; simp
    have e2 : s.extract (a.length + 1) s.size = ⟨b.toArray⟩ := by
      rw [extract_list, ← hsz, List.take_length, H1.out]; simp
    exact ⟨.inl ⟨a, b, H1.out, h2, by rw [e1, e2]; rfl⟩, _, rfl⟩
set_option maxHeartbeats 400000 in
theorem cutstr_any (s : ByteArray) (w : World) (hs : s.size ≤ 140737488355328) :
    Calls Tryz.prog 97 #[.string s, .string ⟨#[10]⟩] w fun e w' => ((∃ a b, s.data.toList = a ++ 10 :: b ∧ 10 ∉ a ∧ e = .returned (.tuple #[sv a, sv b, .bool true])) ∨ (10 ∉ s.data.toList ∧ e = .returned (.tuple #[.string s, .string ⟨#[]⟩, .bool false]))) ∧ ∃ n, w' = w.drewN n := by
  go_enter Tryz.func97, Tryz.ntmps97
  go_wp2_with (go_at_call 128; refine (cutlite_any _ _ hs).mono ?_; rintro e w' ⟨h, nq, rfl⟩; rcases h with ⟨a, b, h1, h2, rfl⟩ | ⟨h1, rfl⟩)
  · go_ret3
    exact ⟨.inl ⟨a, b, h1, h2, rfl⟩, _, rfl⟩
  · go_ret3
    exact ⟨.inr ⟨h1, rfl⟩, _, rfl⟩
end Go.Proofs.YtdpfohgkikjeaaaGreat
