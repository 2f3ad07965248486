/- Part 7 of the proof: see its parts. -/
import Derived.Test.YtdpfohgkikjeaaaGreatU6
/- Plain mathematics, on: what may be left of a swap; how it is read; why a sync is safe whenever the computer fails. Nothing of the program. -/
namespace Go.Proofs.YtdpfohgkikjeaaaGreat
set_option linter.unusedVariables false

/-! ### Heads -/
theorem i64_of_len {len : Int} (h0 : -9223372036854775808 ≤ len) (h1 : len < 9223372036854775808) : i64 (len % 18446744073709551616).toNat = len := by
  unfold i64
  split <;> omega

structure Mark.Fits (m : Mark) : Prop where
  sum : m.sum < 4294967296
  len0 : -9223372036854775808 ≤ m.len
  len1 : m.len < 9223372036854775808

theorem markOf_fits {t : Str} (h : t.length < 9223372036854775808) : (markOf t).Fits := ⟨crc_lt t, by simp only [markOf]; omega, by simp only [markOf]; omega⟩

theorem parseMark_le {m : Mark} (h : m.Fits) (r : Str) : parseMark (leMark m ++ r) = m := by
  have e1 : (leMark m ++ r).take 8 = le 8 (m.len % 18446744073709551616).toNat := by
    rw [leMark, List.append_assoc]; exact List.take_left' (le_length _ _)
  have e2 : (leMark m ++ r).drop 8 = le 4 m.sum ++ r := by
    rw [leMark, List.append_assoc]; exact List.drop_left' (le_length _ _)
  have e3 : (le 4 m.sum ++ r).take 4 = le 4 m.sum := List.take_left' (le_length _ _)
  have hs := h.sum
  unfold parseMark
  rw [e1, e2, e3, unle_le, unle_le]
  have h1 : (m.len % 18446744073709551616).toNat % 256 ^ 8 = (m.len % 18446744073709551616).toNat := Nat.mod_eq_of_lt (by omega)
  have h2 : m.sum % 256 ^ 4 = m.sum := Nat.mod_eq_of_lt (by omega)
  rw [h1, h2, i64_of_len h.len0 h.len1]

theorem parseHead_bytes {h : Head} (hn : h.number < 18446744073709551616) (ht : h.text.Fits) (hf : h.file.Fits) : parseHead (headBytes h) = h := by
  have e0 : headBytes h = magic ++ (le 8 h.number ++ (leMark h.text ++ (leMark h.file ++ (zs 20 ++ le 4 (crc (headBody h)))))) := by
    simp only [headBytes, headBody, headTold, List.append_assoc]
  unfold parseHead
  have d8 : (headBytes h).drop 8 = le 8 h.number ++ (leMark h.text ++ (leMark h.file ++ (zs 20 ++ le 4 (crc (headBody h))))) := by
    rw [e0]; exact List.drop_left' rfl
  have d16 : (headBytes h).drop 16 = leMark h.text ++ (leMark h.file ++ (zs 20 ++ le 4 (crc (headBody h)))) := by
    rw [show 16 = 8 + 8 from rfl, ← List.drop_drop, d8]; exact List.drop_left' (le_length _ _)
  have d28 : (headBytes h).drop 28 = leMark h.file ++ (zs 20 ++ le 4 (crc (headBody h))) := by
    rw [show 28 = 16 + 12 from rfl, ← List.drop_drop, d16]; exact List.drop_left' (leMark_length _)
  rw [d16, d28, d8, parseMark_le ht, parseMark_le hf]
  have e1 : (le 8 h.number ++ (leMark h.text ++ (leMark h.file ++ (zs 20 ++ le 4 (crc (headBody h)))))).take 8 = le 8 h.number := List.take_left' (le_length _ _)
  rw [e1, unle_le, Nat.mod_eq_of_lt (show h.number < 256 ^ 8 by omega)]

theorem readHead_bytes {h : Head} (hn : h.number < 18446744073709551616) (ht : h.text.Fits) (hf : h.file.Fits) : readHead (headBytes h) = some h := by
  unfold readHead
  rw [parseHead_bytes hn ht hf, if_pos rfl]

def blank : Str := pad []
theorem blank_length : blank.length = 64 := pad_length (by simp)

theorem readHead_blank : readHead blank = none := by
  unfold readHead
  rw [if_neg]
  intro h
  have h2 : (headBytes (parseHead blank)).head? = some 113 := rfl
  rw [h] at h2
  revert h2
  decide

theorem readHead_fits {s : Str} {h : Head} (hr : readHead s = some h) : h.number < 18446744073709551616 ∧ h.text.Fits ∧ h.file.Fits := by
  have hl := fun (l : Str) (n k : Nat) (hl : (l.take n).length ≤ n) (hk : 256 ^ n = k) => Nat.lt_of_lt_of_le (unle_lt (l.take n)) (hk ▸ Nat.pow_le_pow_right (by decide) hl)
  have hlt : ∀ (l : Str) (n : Nat), (l.take n).length ≤ n := fun l n => by rw [List.length_take]; omega
  have hi : ∀ n : Nat, n < 18446744073709551616 → -9223372036854775808 ≤ i64 n ∧ i64 n < 9223372036854775808 := fun n hn => by
    unfold i64; split <;> omega
  have hm : ∀ l : Str, (parseMark l).Fits := fun l => by
    have h8 := hi _ (hl l 8 18446744073709551616 (hlt _ _) (by decide))
    exact ⟨hl _ 4 4294967296 (hlt _ _) (by decide), h8.1, h8.2⟩
  unfold readHead at hr
  split at hr
  · cases hr
    exact ⟨hl _ 8 18446744073709551616 (hlt _ _) (by decide), hm _, hm _⟩
  · cases hr

theorem later_succ {n : Nat} (h : n < 18446744073709551616) : isLater ((n + 1) % 18446744073709551616) n = true := by
  unfold isLater i64
  rw [decide_eq_true_iff]
  split <;> omega
theorem not_later_succ {n : Nat} (h : n < 18446744073709551616) : isLater n ((n + 1) % 18446744073709551616) = false := by
  unfold isLater i64
  rw [decide_eq_false_iff_not]
  split <;> omega

/-! ### Reading a swap -/
abbrev Img := Nat → Str
abbrev Sw := Nat → List Str

def IsText (t : Str) : Prop := ∃ ls, TextOk ls ∧ textOf ls = t
def bodyOf (img : Img) (h : Nat) : Str := ((List.range 39).map fun j => img (40 * h + 1 + j)).flatten

structure ReadsHalf (img : Img) (h : Nat) (hd : Head) (t : Str) : Prop where
  head : readHead (img (40 * h)) = some hd
  len0 : 0 ≤ hd.text.len
  len1 : hd.text.len ≤ ((bodyOf img h).length : Int)
  text : t = (bodyOf img h).take hd.text.len.toNat
  sum : crc t = hd.text.sum
  fits : IsText t

theorem ReadsHalf.unique {img h hd t hd' t'} (a : ReadsHalf img h hd t) (b : ReadsHalf img h hd' t') : hd' = hd ∧ t' = t := by
  have e : hd' = hd := Option.some.inj (b.head.symm.trans a.head)
  subst e
  exact ⟨rfl, b.text.trans a.text.symm⟩

/-- What is found. -/
structure Finds (img : Img) (h : Nat) (hd : Head) (t : Str) : Prop where
  half : h ≤ 1
  reads : ReadsHalf img h hd t
  first : h = laterHalf (img 0) (img 40) ∨ ∀ hd' t', ¬ ReadsHalf img (1 - h) hd' t'

theorem laterHalf_le (a b : Str) : laterHalf a b ≤ 1 := by
  unfold laterHalf
  split
  · omega
  · omega
  · split <;> omega

theorem Finds.unique {img h hd t h' hd' t'} (a : Finds img h hd t) (b : Finds img h' hd' t') : h' = h ∧ hd' = hd ∧ t' = t := by
  have hh : h' = h := by
    have ha := a.half; have hb := b.half
    have hl := laterHalf_le (img 0) (img 40)
    rcases a.first with ha' | ha'
    · rcases b.first with hb' | hb'
      · omega
      · by_cases e : h' = h
        · exact e
        · exact absurd a.reads (by have := hb' hd t; rwa [show 1 - h' = h by omega] at this)
    · by_cases e : h' = h
      · exact e
      · exact absurd b.reads (by have := ha' hd' t'; rwa [show 1 - h = h' by omega] at this)
  subst hh
  exact ⟨rfl, a.reads.unique b.reads⟩

/-- Two images that agree are read alike. -/
theorem bodyOf_congr {img img' : Img} {h : Nat} (hh : h ≤ 1) (e : ∀ i, i < 400 → img' i = img i) : bodyOf img' h = bodyOf img h := by
  unfold bodyOf
  congr 1
  refine List.map_congr_left fun j hj => e _ ?_
  have := List.mem_range.1 hj
  omega

theorem ReadsHalf.congr {img img' : Img} {h hd t} (hh : h ≤ 1) (e : ∀ i, i < 400 → img' i = img i) (r : ReadsHalf img h hd t) : ReadsHalf img' h hd t :=
  ⟨by rw [e _ (by omega)]; exact r.head, r.len0, by rw [bodyOf_congr hh e]; exact r.len1, by rw [bodyOf_congr hh e]; exact r.text, r.sum, r.fits⟩

theorem Finds.congr {img img' : Img} {h hd t} (e : ∀ i, i < 400 → img' i = img i) (f : Finds img h hd t) : Finds img' h hd t :=
  ⟨f.half, f.reads.congr f.half e, by
    rw [e 0 (by omega), e 40 (by omega)]
    exact f.first.imp id (fun g hd' t' r => g hd' t' (r.congr (by omega) (fun i hi => (e i hi).symm)))⟩

/-- Only one half has a head. -/
theorem finds_lone {img : Img} {h : Nat} {hd : Head} {t : Str} (hh : h ≤ 1) (r : ReadsHalf img h hd t) (ho : readHead (img (40 * (1 - h))) = none) : Finds img h hd t := by
  refine ⟨hh, r, .inr fun hd' t' r' => ?_⟩
  have := r'.head
  rw [ho] at this
  cases this

/-- The half with the number behind the other's. -/
theorem finds_later {img : Img} {h : Nat} {hd hd' : Head} {t : Str} (hh : h ≤ 1) (r : ReadsHalf img h hd t) (ho : readHead (img (40 * (1 - h))) = some hd') (hn : hd'.number < 18446744073709551616) (e : hd.number = (hd'.number + 1) % 18446744073709551616) : Finds img h hd t := by
  refine ⟨hh, r, .inl ?_⟩
  have hr := r.head
  have h1 : isLater hd.number hd'.number = true := by rw [e]; exact later_succ hn
  have h2 : isLater hd'.number hd.number = false := by rw [e]; exact not_later_succ hn
  rcases Nat.lt_or_ge h 1 with hc | hc
  · obtain rfl : h = 0 := by omega
    unfold laterHalf
    rw [show img 0 = img (40 * 0) from rfl, show img 40 = img (40 * (1 - 0)) from rfl, hr, ho]
    simp only [h2]; rfl
  · obtain rfl : h = 1 := by omega
    unfold laterHalf
    rw [show img 0 = img (40 * (1 - 1)) from rfl, show img 40 = img (40 * 1) from rfl, hr, ho]
    simp only [h1]; rfl

/-! ### What may be left -/
/-- What may be left of a swap. -/
def Left (S : Sw) (img : Img) : Prop := ∀ i, i < 400 → img i ∈ S i

structure Sized (S : Sw) : Prop where
  some : ∀ i, i < 400 → S i ≠ []
  size : ∀ i, i < 400 → ∀ x ∈ S i, x.length = 64

theorem Sized.left {S : Sw} (h : Sized S) : ∃ img, Left S img := by
  refine ⟨fun i => (S i).headD [], fun i hi => ?_⟩
  have := h.some i hi
  cases hS : S i with
  | nil => exact absurd hS this
  | cons x l => simp [hS]

def lastOf (l : List Str) : Str := l.getLastD []
theorem lastOf_mem {l : List Str} (h : l ≠ []) : lastOf l ∈ l := by
  unfold lastOf
  rw [List.getLastD_eq_getLast?, List.getLast?_eq_some_getLast h]
  exact List.getLast_mem h
theorem lastOf_snoc (l : List Str) (x : Str) : lastOf (l ++ [x]) = x := by simp [lastOf]
theorem lastOf_one (x : Str) : lastOf [x] = x := rfl

def Sw.write (S : Sw) (a : Nat) (x : Str) : Sw := fun i => if i = a then S i ++ [x] else S i
def Sw.sync (S : Sw) : Sw := fun i => [lastOf (S i)]
def Sw.act (S : Sw) (a : PAct) : Sw := if a.kind = 1 then S.write a.at_ a.data else if a.kind = 2 then S.sync else S

theorem Sw.write_at (S : Sw) (a : Nat) (x : Str) : S.write a x a = S a ++ [x] := by simp [Sw.write]
theorem Sw.write_ne (S : Sw) {a i : Nat} (x : Str) (h : i ≠ a) : S.write a x i = S i := by simp [Sw.write, h]

theorem Sized.write {S : Sw} (h : Sized S) {a : Nat} {x : Str} (hx : x.length = 64) : Sized (S.write a x) := by
  refine ⟨fun i hi => ?_, fun i hi y hy => ?_⟩
  · by_cases e : i = a
    · subst e; rw [Sw.write_at]; simp
    · rw [Sw.write_ne _ _ e]; exact h.some i hi
  · by_cases e : i = a
    · subst e; rw [Sw.write_at] at hy
      rcases List.mem_append.1 hy with hy | hy
      · exact h.size i hi y hy
      · simp at hy; subst hy; exact hx
    · rw [Sw.write_ne _ _ e] at hy; exact h.size i hi y hy

theorem Sized.sync {S : Sw} (h : Sized S) : Sized S.sync := by
  refine ⟨fun i _ => by simp [Sw.sync], fun i hi y hy => ?_⟩
  simp only [Sw.sync, List.mem_cons, List.not_mem_nil, or_false] at hy
  subst hy
  exact h.size i hi _ (lastOf_mem (h.some i hi))

theorem Left.sync {S : Sw} (h : Sized S) {img : Img} (hl : Left S.sync img) : Left S img := fun i hi => by
  have := hl i hi
  simp only [Sw.sync, List.mem_cons, List.not_mem_nil, or_false] at this
  rw [this]
  exact lastOf_mem (h.some i hi)

theorem Left.at {S : Sw} {img : Img} (h : Left S img) {i : Nat} (hi : i < 400) {x : Str} (e : S i = [x]) : img i = x := by
  have := h i hi; rw [e] at this; simpa using this

/-! ### The state that outlives all -/
/-- The half h, of number n, holds the text t0, with the mark f0, and is safe; whatever is left, what is found is ok. -/
structure Safe (S : Sw) (h n : Nat) (t0 : Str) (f0 : Mark) (ok : Str → Mark → Prop) : Prop where
  sized : Sized S
  half : h ≤ 1
  num : n < 18446744073709551616
  own : ∀ j, j < 40 → ∃ x, S (40 * h + j) = [x]
  reads : ∀ img, Left S img → ∃ hd, hd.number = n ∧ hd.file = f0 ∧ ReadsHalf img h hd t0
  all : ∀ img, Left S img → ∀ h' hd t, Finds img h' hd t → ok t hd.file
  other : (∀ x ∈ S (40 * (1 - h)), readHead x = none) ∨ (∀ j, j < 39 → ∃ x, S (40 * (1 - h) + 1 + j) = [x])

theorem Safe.mono {S h n t0 f0} {ok ok' : Str → Mark → Prop} (a : Safe S h n t0 f0 ok) (e : ∀ t f, ok t f → ok' t f) : Safe S h n t0 f0 ok' :=
  ⟨a.sized, a.half, a.num, a.own, a.reads, fun img hl h' hd t hf => e _ _ (a.all img hl h' hd t hf), a.other⟩

/-- Something is always found. -/
theorem Safe.finds {S h n t0 f0 ok} (a : Safe S h n t0 f0 ok) {img : Img} (hl : Left S img) : ∃ h' hd t, Finds img h' hd t := by
  obtain ⟨hd, _, _, r⟩ := a.reads img hl
  by_cases hh : ∃ hd' t', ReadsHalf img (1 - h) hd' t'
  · obtain ⟨hd', t', r'⟩ := hh
    by_cases e : h = laterHalf (img 0) (img 40)
    · exact ⟨h, hd, t0, a.half, r, .inl e⟩
    · have := laterHalf_le (img 0) (img 40)
      have := a.half
      exact ⟨1 - h, hd', t', by omega, r', .inl (by omega)⟩
  · exact ⟨h, hd, t0, a.half, r, .inr fun hd' t' r' => hh ⟨hd', t', r'⟩⟩

/-- The text that the safe half holds is ok. -/
theorem Safe.ok0 {S h n t0 f0 ok} (a : Safe S h n t0 f0 ok) (hb : ∀ x ∈ S (40 * (1 - h)), readHead x = none) : ok t0 f0 := by
  obtain ⟨img, hl⟩ := a.sized.left
  obtain ⟨hd, _, hf, r⟩ := a.reads img hl
  rw [← hf]
  have := a.half
  exact a.all img hl h hd t0 (finds_lone a.half r (hb _ (hl _ (by omega))))

theorem Safe.sync {S h n t0 f0 ok} (a : Safe S h n t0 f0 ok) : Safe S.sync h n t0 f0 ok := by
  have hh := a.half
  refine ⟨a.sized.sync, a.half, a.num, fun j _ => ⟨_, rfl⟩, fun img hl => a.reads img (hl.sync a.sized), fun img hl => a.all img (hl.sync a.sized), .inr fun j _ => ⟨_, rfl⟩⟩

theorem left_of_write {S : Sw} {a : Nat} {x : Str} {img : Img} (hl : Left (S.write a x) img) (hm : img a ∈ S a) : Left S img := fun i hi => by
  by_cases e : i = a
  · subst e; exact hm
  · have := hl i hi; rwa [Sw.write_ne _ _ e] at this

theorem bodyOf_write_other {S : Sw} {img : Img} {a h : Nat} {y : Str} (h1 : a < 40 * h + 1 ∨ 40 * h + 40 ≤ a) : bodyOf (fun i => if i = a then y else img i) h = bodyOf img h := by
  unfold bodyOf
  congr 1
  refine List.map_congr_left fun j hj => ?_
  have := List.mem_range.1 hj
  show (if 40 * h + 1 + j = a then y else img (40 * h + 1 + j)) = _
  rw [if_neg (by omega)]

/-- A sector of the half that is not safe is written: what stays is what is read of the other half. -/
theorem Safe.reads_write {S h n t0 f0 ok} (a : Safe S h n t0 f0 ok) {p : Nat} {x : Str} (hp : p < 400) (hne : p < 40 * h ∨ 40 * h + 40 ≤ p) : ∀ img, Left (S.write p x) img → ∃ hd, hd.number = n ∧ hd.file = f0 ∧ ReadsHalf img h hd t0 := by
  intro img hl
  -- the same image, but for what is written
  obtain ⟨y, hy⟩ : ∃ y, y ∈ S p := by
    have := a.sized.some p hp
    cases hS : S p with
    | nil => exact absurd hS this
    | cons y l => exact ⟨y, by simp⟩
  have hl' : Left S (fun i => if i = p then y else img i) := fun i hi => by
    by_cases e : i = p
    · subst e; simpa using hy
    · simp only [e, if_false]; have := hl i hi; rwa [Sw.write_ne _ _ e] at this
  obtain ⟨hd, h1, h2, r⟩ := a.reads _ hl'
  have hb : bodyOf (fun i => if i = p then y else img i) h = bodyOf img h := bodyOf_write_other (S := S) (by omega)
  refine ⟨hd, h1, h2, ?_⟩
  have hr : readHead (if 40 * h = p then y else img (40 * h)) = some hd := r.head
  rw [if_neg (by omega)] at hr
  exact ⟨hr, r.len0, by rw [← hb]; exact r.len1, by rw [← hb]; exact r.text, r.sum, r.fits⟩

/-- The head of the other half is blotted out. -/
theorem Safe.blot {S h n t0 f0 ok} (a : Safe S h n t0 f0 ok) (hok : ok t0 f0) : Safe (S.write (40 * (1 - h)) blank) h n t0 f0 ok := by
  have hh := a.half
  refine ⟨a.sized.write blank_length, a.half, a.num, fun j hj => ?_, a.reads_write (by omega) (by omega), fun img hl h' hd t hf => ?_, ?_⟩
  · rw [Sw.write_ne _ _ (by omega)]; exact a.own j hj
  · by_cases e : img (40 * (1 - h)) ∈ S (40 * (1 - h))
    · exact a.all img (left_of_write hl e) h' hd t hf
    · have := hl (40 * (1 - h)) (by omega)
      rw [Sw.write_at] at this
      rcases List.mem_append.1 this with hm | hm
      · exact absurd hm e
      · simp only [List.mem_cons, List.not_mem_nil, or_false] at hm
        obtain ⟨hd0, _, hf0, r0⟩ := a.reads_write (x := blank) (p := 40 * (1 - h)) (by omega) (by omega) img hl
        have hfi := finds_lone a.half r0 (by rw [hm]; exact readHead_blank)
        obtain ⟨_, rfl, rfl⟩ := hfi.unique hf
        rw [hf0]; exact hok
  · rcases a.other with ho | ho
    · left
      intro x hx
      rw [Sw.write_at] at hx
      rcases List.mem_append.1 hx with hx | hx
      · exact ho x hx
      · simp only [List.mem_cons, List.not_mem_nil, or_false] at hx; rw [hx]; exact readHead_blank
    · right
      intro j hj
      rw [Sw.write_ne _ _ (by omega)]; exact ho j hj

/-- The bytes of the other half are written, while it has no head. -/
theorem Safe.body {S h n t0 f0 ok} (a : Safe S h n t0 f0 ok) (hb : ∀ x ∈ S (40 * (1 - h)), readHead x = none) {j : Nat} (hj : j < 39) {x : Str} (hx : x.length = 64) : Safe (S.write (40 * (1 - h) + 1 + j) x) h n t0 f0 ok := by
  have hh := a.half
  have hok := a.ok0 hb
  have hb' : ∀ y ∈ (S.write (40 * (1 - h) + 1 + j) x) (40 * (1 - h)), readHead y = none := fun y hy => by
    rw [Sw.write_ne _ _ (by omega)] at hy; exact hb y hy
  refine ⟨a.sized.write hx, a.half, a.num, fun i hi => ?_, a.reads_write (by omega) (by omega), fun img hl h' hd t hf => ?_, .inl hb'⟩
  · rw [Sw.write_ne _ _ (by omega)]; exact a.own i hi
  · obtain ⟨hd0, _, hf0, r0⟩ := a.reads_write (x := x) (p := 40 * (1 - h) + 1 + j) (by omega) (by omega) img hl
    have hfi := finds_lone a.half r0 (hb' _ (hl _ (by omega)))
    obtain ⟨_, rfl, rfl⟩ := hfi.unique hf
    rw [hf0]; exact hok

/-- A piece of a text, as a sector. -/
def pieceAt (t : Str) (j : Nat) : Str := pad ((t.drop (64 * j)).take 64)
theorem pieceAt_length (t : Str) (j : Nat) : (pieceAt t j).length = 64 := pad_length (by rw [List.length_take]; omega)
def nPieces (t : Str) : Nat := (t.length + 63) / 64

theorem piece_full {t : Str} {j : Nat} (h : 64 * (j + 1) ≤ t.length) : pieceAt t j = (t.drop (64 * j)).take 64 := by
  unfold pieceAt pad
  rw [List.length_take, List.length_drop, show 64 - min 64 (t.length - 64 * j) = 0 by omega]
  simp [zs]

/-- The sectors that hold a text's pieces begin with the text. -/
theorem pieces_text (t : Str) : ∀ (N : Nat), t.length ≤ 64 * N → ∀ f : Nat → Str, (∀ j, j < nPieces t → f j = pieceAt t j) → (∀ j, j < N → (f j).length = 64) → ((List.range N).map f).flatten.take t.length = t := by
  suffices H : ∀ (N : Nat) (f : Nat → Str), (∀ j, j < N → j < nPieces t → f j = pieceAt t j) → (∀ j, j < N → (f j).length = 64) →
      ((List.range N).map f).flatten.take t.length = t.take (64 * N) ∧ ((List.range N).map f).flatten.length = 64 * N by
    intro N hN f h1 h2
    rw [(H N f (fun j _ hj => h1 j hj) h2).1]
    exact List.take_of_length_le hN
  intro N
  induction N with
  | zero => intro f _ _; simp
  | succ N ih =>
    intro f h1 h2
    obtain ⟨e1, e2⟩ := ih f (fun j hj hn => h1 j (by omega) hn) (fun j hj => h2 j (by omega))
    rw [List.range_succ, List.map_append, List.flatten_append]
    simp only [List.map_cons, List.map_nil, List.flatten_cons, List.flatten_nil, List.append_nil]
    have hl := h2 N (by omega)
    refine ⟨?_, by rw [List.length_append, e2, hl]; omega⟩
    rcases Nat.lt_or_ge N (nPieces t) with hn | hn
    · unfold nPieces at hn
      rw [List.take_append, e1, e2, h1 N (by omega) (by unfold nPieces; omega)]
      rw [show 64 * (N + 1) = 64 * N + 64 by omega, List.take_add]
      congr 1
      unfold pieceAt pad
      rw [List.take_append, List.length_take, List.length_drop]
      rcases Nat.lt_or_ge (t.length - 64 * N) 64 with hc | hc
      · rw [show min 64 (t.length - 64 * N) = t.length - 64 * N by omega, Nat.sub_self, List.take_zero, List.append_nil]
        rw [List.take_of_length_le (l := (t.drop (64 * N)).take 64) (by rw [List.length_take, List.length_drop]; omega)]
      · rw [List.take_take, show min 64 (t.length - 64 * N) = 64 by omega, show min (t.length - 64 * N) 64 = 64 by omega, show 64 - 64 = 0 by omega]
        simp [zs]
    · unfold nPieces at hn
      have h0 : t.length - (((List.range N).map f).flatten).length ≤ 0 := by rw [e2]; omega
      rw [List.take_append, e1, show t.length - (((List.range N).map f).flatten).length = 0 by omega, List.take_zero, List.append_nil, List.take_of_length_le (l := t) (by omega), List.take_of_length_le (l := t) (by omega)]

theorem bodyOf_length {img : Img} {h : Nat} (hs : ∀ j, j < 39 → (img (40 * h + 1 + j)).length = 64) : (bodyOf img h).length = 2496 := by
  unfold bodyOf
  suffices H : ∀ N, N ≤ 39 → (((List.range N).map fun j => img (40 * h + 1 + j)).flatten).length = 64 * N by exact H 39 (by omega)
  intro N hN
  induction N with
  | zero => rfl
  | succ N ih =>
    rw [List.range_succ, List.map_append, List.flatten_append, List.length_append, ih (by omega)]
    simp [hs N (by omega)]
    omega

/-- A half that holds a text whole. -/
theorem reads_written {img : Img} {h : Nat} {hd : Head} {t : Str} (ht : IsText t) (hm : hd.text = markOf t) (hh : readHead (img (40 * h)) = some hd) (hs : ∀ j, j < 39 → (img (40 * h + 1 + j)).length = 64) (hp : ∀ j, j < nPieces t → img (40 * h + 1 + j) = pieceAt t j) : ReadsHalf img h hd t := by
  obtain ⟨ls, hl, rfl⟩ := ht
  have hlen := hl.length
  have e : hd.text.len.toNat = (textOf ls).length := by rw [hm]; simp [markOf]
  refine ⟨hh, by rw [hm]; simp [markOf], ?_, ?_, by rw [hm]; rfl, ⟨ls, hl, rfl⟩⟩
  · rw [bodyOf_length hs, hm]; simp only [markOf]; omega
  · rw [e]
    exact (pieces_text (textOf ls) 39 (by omega) (fun j => img (40 * h + 1 + j)) hp hs).symm

/-- What is written of a sync, from the blot on: the sectors of the half. -/
structure Written (S : Sw) (h : Nat) (t : Str) : Prop where
  body : ∀ j, j < 39 → ∃ x, S (40 * h + 1 + j) = [x]
  pieces : ∀ j, j < nPieces t → S (40 * h + 1 + j) = [pieceAt t j]

/-- The new head is written. -/
theorem Safe.headed {S h n t0 f0 ok t f} (a : Safe S h n t0 f0 ok) (hb : S (40 * (1 - h)) = [blank]) (hw : Written S (1 - h) t) (ht : IsText t) (hf : Mark.Fits f) (hok : ok t f) :
    Safe (S.write (40 * (1 - h)) (headBytes ⟨(n + 1) % 18446744073709551616, markOf t, f⟩)) h n t0 f0 ok := by
  have hh := a.half
  have hnum := a.num
  have hok0 := a.ok0 (by rw [hb]; intro x hx; simp only [List.mem_cons, List.not_mem_nil, or_false] at hx; rw [hx]; exact readHead_blank)
  obtain ⟨ls, hls, hlt⟩ := id ht
  have htl : t.length < 9223372036854775808 := by rw [← hlt]; have := hls.length; omega
  have hrd : readHead (headBytes ⟨(n + 1) % 18446744073709551616, markOf t, f⟩) = some ⟨(n + 1) % 18446744073709551616, markOf t, f⟩ := readHead_bytes (Nat.mod_lt _ (by decide)) (markOf_fits htl) hf
  refine ⟨a.sized.write (headBytes_length _), a.half, a.num, fun j hj => ?_, a.reads_write (by omega) (by omega), fun img hl h' hd t' hfi => ?_, .inr fun j hj => ?_⟩
  · rw [Sw.write_ne _ _ (by omega)]; exact a.own j hj
  · by_cases e : img (40 * (1 - h)) ∈ S (40 * (1 - h))
    · exact a.all img (left_of_write hl e) h' hd t' hfi
    · have := hl (40 * (1 - h)) (by omega)
      rw [Sw.write_at] at this
      rcases List.mem_append.1 this with hm | hm
      · exact absurd hm e
      · simp only [List.mem_cons, List.not_mem_nil, or_false] at hm
        obtain ⟨hd0, hn0, hf0, r0⟩ := a.reads_write (x := headBytes ⟨(n + 1) % 18446744073709551616, markOf t, f⟩) (p := 40 * (1 - h)) (by omega) (by omega) img hl
        have hbody : ∀ j, j < 39 → img (40 * (1 - h) + 1 + j) ∈ S (40 * (1 - h) + 1 + j) := fun j hj => by
          have := hl (40 * (1 - h) + 1 + j) (by omega); rwa [Sw.write_ne _ _ (by omega)] at this
        have r : ReadsHalf img (1 - h) ⟨(n + 1) % 18446744073709551616, markOf t, f⟩ t := by
          refine reads_written ht rfl (by rw [hm]; exact hrd) (fun j hj => a.sized.size _ (by omega) _ (hbody j hj)) (fun j hj => ?_)
          have h39 : nPieces t ≤ 39 := by unfold nPieces; rw [← hlt]; have := hls.length; omega
          have := hbody j (by omega)
          rw [hw.pieces j hj] at this
          simpa using this
        have hfi' := finds_later (hd' := hd0) (by omega) r (by rw [show 1 - (1 - h) = h by omega]; exact r0.head) (by rw [hn0]; exact hnum) (by rw [hn0])
        obtain ⟨_, rfl, rfl⟩ := hfi'.unique hfi
        exact hok
  · rw [Sw.write_ne _ _ (by omega)]; exact hw.body j hj

/-- The last Sync: the half that was written is the safe one. -/
theorem safe_done {S : Sw} {h n : Nat} {t : Str} {f : Mark} (hS : Sized S) (hh : h ≤ 1) (hn : n < 18446744073709551616) (ht : IsText t) (hf : Mark.Fits f) (hw : Written S h t) (hhead : lastOf (S (40 * h)) = headBytes ⟨n, markOf t, f⟩)
    (ho : (∃ m, m < 18446744073709551616 ∧ n = (m + 1) % 18446744073709551616 ∧ ∀ img, Left S img → ∃ hd, hd.number = m ∧ readHead (img (40 * (1 - h))) = some hd) ∨ lastOf (S (40 * (1 - h))) = blank) :
    Safe S.sync h n t f (fun t' f' => t' = t ∧ f' = f) := by
  obtain ⟨ls, hls, hlt⟩ := id ht
  have htl : t.length < 9223372036854775808 := by rw [← hlt]; have := hls.length; omega
  have h39 : nPieces t ≤ 39 := by unfold nPieces; rw [← hlt]; have := hls.length; omega
  have hrd : readHead (headBytes ⟨n, markOf t, f⟩) = some ⟨n, markOf t, f⟩ := readHead_bytes hn (markOf_fits htl) hf
  have hr : ∀ img, Left S.sync img → ReadsHalf img h ⟨n, markOf t, f⟩ t := fun img hl => by
    have h0 := hl.at (i := 40 * h) (by omega) rfl
    refine reads_written ht rfl (by rw [h0, hhead]; exact hrd) (fun j hj => hS.sync.size _ (by omega) _ (hl _ (by omega))) (fun j hj => ?_)
    have h1 := hl.at (i := 40 * h + 1 + j) (by omega) rfl
    rw [h1, hw.pieces j hj]; rfl
  refine ⟨hS.sync, hh, hn, fun j _ => ⟨_, rfl⟩, fun img hl => ⟨_, rfl, rfl, hr img hl⟩, fun img hl h' hd t' hfi => ?_, .inr fun j _ => ⟨_, rfl⟩⟩
  have hfi' : Finds img h ⟨n, markOf t, f⟩ t := by
    rcases ho with ⟨m, hm, hnm, ho⟩ | ho
    · obtain ⟨hd', h1, h2⟩ := ho img (hl.sync hS)
      exact finds_later hh (hr img hl) h2 (by rw [h1]; exact hm) (by rw [h1]; exact hnm)
    · have h0 := hl.at (i := 40 * (1 - h)) (by omega) rfl
      exact finds_lone hh (hr img hl) (by rw [h0, ho]; exact readHead_blank)
  obtain ⟨_, rfl, rfl⟩ := hfi'.unique hfi
  exact ⟨rfl, rfl⟩

/-- A swap that was read back, all of it safe. -/
theorem safe_found {img : Img} {h : Nat} {hd : Head} {t : Str} (hs : ∀ i, i < 400 → (img i).length = 64) (hfi : Finds img h hd t) : Safe (fun i => [img i]) h hd.number t hd.file (fun t' f' => t' = t ∧ f' = hd.file) := by
  have he : ∀ img', Left (fun i => [img i]) img' → ∀ i, i < 400 → img' i = img i := fun img' hl i hi => hl.at hi rfl
  refine ⟨⟨fun i _ => by simp, fun i hi x hx => ?_⟩, hfi.half, (readHead_fits hfi.reads.head).1, fun j _ => ⟨_, rfl⟩, fun img' hl => ⟨hd, rfl, rfl, hfi.reads.congr hfi.half (he img' hl)⟩, fun img' hl h' hd' t' hfi' => ?_, .inr fun j _ => ⟨_, rfl⟩⟩
  · simp only [List.mem_cons, List.not_mem_nil, or_false] at hx; rw [hx]; exact hs i hi
  · obtain ⟨_, rfl, rfl⟩ := (hfi.congr (he img' hl)).unique hfi'
    exact ⟨rfl, rfl⟩

end Go.Proofs.YtdpfohgkikjeaaaGreat
/- Plain mathematics, on: a sync, act by act. Nothing of the program. -/
namespace Go.Proofs.YtdpfohgkikjeaaaGreat
set_option linter.unusedVariables false
set_option linter.unusedSimpArgs false

def tail3 (h n : Nat) (t : Str) (f : Mark) : List PAct := [pSettle, ⟨1, 40 * h, headBytes ⟨n, markOf t, f⟩⟩, pSettle]

/-- What is known of the swap: whatever acts were done. -/
structure SwOk (S : Sw) (wr : Wr) (t0 : Str) (f0 : Mark) (ok : Str → Mark → Prop) : Prop where
  sized : Sized S
  half : wr.half ≤ 1
  num : wr.number < 18446744073709551616
  safe : wr.known = true → ok t0 f0 ∧ Safe S wr.half wr.number t0 f0 ok

theorem SwOk.mono {S wr t0 f0} {ok ok' : Str → Mark → Prop} (a : SwOk S wr t0 f0 ok) (e : ∀ t f, ok t f → ok' t f) : SwOk S wr t0 f0 ok' :=
  ⟨a.sized, a.half, a.num, fun hk => ⟨e _ _ (a.safe hk).1, (a.safe hk).2.mono e⟩⟩

/-- How far a sync has come: the acts R are left. -/
structure PhA (S : Sw) (wr : Wr) (t : Str) (f : Mark) (R pre : List PAct) : Prop where
  acts : R = pre ++ pSettle :: (bodyActs (1 - wr.half) t ++ tail3 (1 - wr.half) wr.next t f)
  each : ∀ p ∈ pre, p = pSettle ∨ p = pWrite (40 * (1 - wr.half)) [] ∨ (wr.known = false ∧ p = pWrite (40 * wr.half) [])
  blot : pWrite (40 * (1 - wr.half)) [] ∈ pre ∨ lastOf (S (40 * (1 - wr.half))) = blank
  other : wr.known = false → pWrite (40 * wr.half) [] ∈ pre ∨ lastOf (S (40 * wr.half)) = blank
structure PhB (S : Sw) (wr : Wr) (t : Str) (f : Mark) (R : List PAct) (k : Nat) : Prop where
  acts : R = (bodyActs (1 - wr.half) t).drop k ++ tail3 (1 - wr.half) wr.next t f
  le : k ≤ nPieces t
  blot : S (40 * (1 - wr.half)) = [blank]
  other : wr.known = false → S (40 * wr.half) = [blank]
  done : ∀ j, j < k → lastOf (S (40 * (1 - wr.half) + 1 + j)) = pieceAt t j
structure PhC (S : Sw) (wr : Wr) (t : Str) (f : Mark) (R : List PAct) : Prop where
  acts : R = [⟨1, 40 * (1 - wr.half), headBytes ⟨wr.next, markOf t, f⟩⟩, pSettle]
  blot : S (40 * (1 - wr.half)) = [blank]
  other : wr.known = false → S (40 * wr.half) = [blank]
  written : Written S (1 - wr.half) t
structure PhD (S : Sw) (wr : Wr) (t : Str) (f : Mark) (R : List PAct) : Prop where
  acts : R = [pSettle]
  head : lastOf (S (40 * (1 - wr.half))) = headBytes ⟨wr.next, markOf t, f⟩
  other : wr.known = false → S (40 * wr.half) = [blank]
  written : Written S (1 - wr.half) t

def Prog (S : Sw) (wr : Wr) (t : Str) (f : Mark) (R : List PAct) : Prop := (∃ pre, PhA S wr t f R pre) ∨ (∃ k, PhB S wr t f R k) ∨ PhC S wr t f R ∨ PhD S wr t f R

theorem bodyActs_length (h : Nat) (t : Str) : (bodyActs h t).length = nPieces t := by simp [bodyActs, nPieces]
theorem bodyActs_get (h : Nat) (t : Str) {k : Nat} (hk : k < nPieces t) : (bodyActs h t)[k]? = some (pWrite (40 * h + 1 + k) ((t.drop (64 * k)).take 64)) := by
  unfold bodyActs
  rw [List.getElem?_map, List.getElem?_range (by unfold nPieces at hk; exact hk)]
  rfl

theorem acts_eq (wr : Wr) (t : Str) (f : Mark) : wr.acts t f = ((if wr.unsettled then [pSettle] else []) ++ pWrite (40 * (1 - wr.half)) [] :: (if wr.known then [] else [pWrite (40 * wr.half) []])) ++ pSettle :: (bodyActs (1 - wr.half) t ++ tail3 (1 - wr.half) wr.next t f) := by
  simp only [Wr.acts, tail3, Wr.head, List.append_assoc, List.cons_append, List.nil_append]

theorem prog_start (S : Sw) (wr : Wr) (t : Str) (f : Mark) : Prog S wr t f (wr.acts t f) := by
  refine .inl ⟨_, acts_eq wr t f, fun p hp => ?_, .inl (by simp), fun hk => .inl (by simp [hk])⟩
  simp only [List.mem_append, List.mem_cons] at hp
  rcases hp with hp | hp | hp
  · split at hp
    · simp at hp; exact .inl hp
    · cases hp
  · exact .inr (.inl hp)
  · cases hk : wr.known with
    | true => rw [hk] at hp; simp at hp
    | false => rw [hk] at hp; simp at hp; exact .inr (.inr ⟨rfl, hp⟩)

theorem acts_ne (wr : Wr) (t : Str) (f : Mark) : wr.acts t f ≠ [] := by rw [acts_eq]; simp

theorem acts_length (wr : Wr) {t : Str} (f : Mark) (h : t.length ≤ 2460) : (wr.acts t f).length ≤ 46 := by
  rw [acts_eq]
  simp only [List.length_append, List.length_cons, bodyActs_length, tail3, List.length_nil]
  have : nPieces t ≤ 39 := by unfold nPieces; omega
  have h1 : (if wr.unsettled = true then [pSettle] else []).length ≤ 1 := by split <;> simp
  have h2 : (if wr.known = true then [] else [pWrite (40 * wr.half) []]).length ≤ 1 := by split <;> simp
  omega

/-- An act of a sync. -/
def ActOk (a : PAct) : Prop := a = pSettle ∨ (a.kind = 1 ∧ a.at_ < 400 ∧ a.data.length = 64)

theorem act_settle (S : Sw) : S.act pSettle = S.sync := by simp [Sw.act]
theorem act_write (S : Sw) (p : Nat) (l : Str) : S.act (pWrite p l) = S.write p (pad l) := by simp [Sw.act, pWrite]

theorem sync_at (S : Sw) (i : Nat) : S.sync i = [lastOf (S i)] := rfl
theorem lastOf_write_at (S : Sw) (a : Nat) (x : Str) : lastOf (S.write a x a) = x := by rw [Sw.write_at, lastOf_snoc]

theorem SwOk.sync {S wr t0 f0 ok} (a : SwOk S wr t0 f0 ok) : SwOk S.sync wr t0 f0 ok := ⟨a.sized.sync, a.half, a.num, fun hk => ⟨(a.safe hk).1, (a.safe hk).2.sync⟩⟩

theorem SwOk.other {S wr t0 f0 ok} (a : SwOk S wr t0 f0 ok) {p : Nat} {x : Str} (hx : x.length = 64) (h : wr.known = true → Safe (S.write p x) wr.half wr.number t0 f0 ok) : SwOk (S.write p x) wr t0 f0 ok :=
  ⟨a.sized.write hx, a.half, a.num, fun hk => ⟨(a.safe hk).1, h hk⟩⟩

theorem fits_next (wr : Wr) : wr.next < 18446744073709551616 := Nat.mod_lt _ (by decide)

/-- An act of a sync is done. -/
theorem prog_step {S : Sw} {wr : Wr} {t0 t : Str} {f0 f : Mark} {ok : Str → Mark → Prop} {a : PAct} {R : List PAct} (h : SwOk S wr t0 f0 ok) (ht : IsText t) (hf : f.Fits) (hok : ok t f) (hp : Prog S wr t f (a :: R)) :
    ActOk a ∧ SwOk (S.act a) wr t0 f0 ok ∧ (R ≠ [] → Prog (S.act a) wr t f R) ∧ (R = [] → a = pSettle ∧ SwOk (S.act a) wr.written t f (fun t' f' => t' = t ∧ f' = f)) := by
  have hh := h.half
  have h39 : nPieces t ≤ 39 := by obtain ⟨ls, hls, rfl⟩ := ht; have := hls.length; unfold nPieces; omega
  rcases hp with ⟨pre, A⟩ | ⟨k, B⟩ | C | D
  · cases pre with
    | nil =>
      have e := A.acts
      simp only [List.nil_append, List.cons.injEq] at e
      obtain ⟨rfl, rfl⟩ := e
      rw [act_settle]
      have hb : lastOf (S (40 * (1 - wr.half))) = blank := A.blot.resolve_left (by simp)
      refine ⟨.inl rfl, h.sync, fun _ => .inr (.inl ⟨0, rfl, Nat.zero_le _, by rw [sync_at, hb], fun hk => by rw [sync_at, (A.other hk).resolve_left (by simp)], fun j hj => by omega⟩), fun hh => by simp [tail3] at hh⟩
    | cons p pre =>
      have e := A.acts
      simp only [List.cons_append, List.cons.injEq] at e
      obtain ⟨rfl, rfl⟩ := e
      have hpre := fun q hq => A.each q (List.mem_cons_of_mem _ hq)
      have hne : pre ++ pSettle :: (bodyActs (1 - wr.half) t ++ tail3 (1 - wr.half) wr.next t f) ≠ [] := by simp
      rcases A.each a (by simp) with rfl | rfl | ⟨hkn, rfl⟩
      · rw [act_settle]
        refine ⟨.inl rfl, h.sync, fun _ => .inl ⟨pre, rfl, hpre, ?_, fun hk => ?_⟩, fun hh => absurd hh hne⟩
        · rcases A.blot with hb | hb
          · rcases List.mem_cons.1 hb with hb | hb
            · simp [pWrite] at hb
            · exact .inl hb
          · exact .inr (by rw [sync_at, lastOf_one, hb])
        · rcases A.other hk with hb | hb
          · rcases List.mem_cons.1 hb with hb | hb
            · simp [pWrite] at hb
            · exact .inl hb
          · exact .inr (by rw [sync_at, lastOf_one, hb])
      · rw [act_write]
        refine ⟨.inr ⟨rfl, by simp only [pWrite]; omega, blank_length⟩, h.other blank_length (fun hk => (h.safe hk).2.blot (h.safe hk).1), fun _ => .inl ⟨pre, rfl, hpre, .inr (lastOf_write_at _ _ _), fun hk => ?_⟩, fun hh => absurd hh hne⟩
        rcases A.other hk with hb | hb
        · rcases List.mem_cons.1 hb with hb | hb
          · simp only [pWrite, PAct.mk.injEq] at hb; omega
          · exact .inl hb
        · exact .inr (by rw [Sw.write_ne _ _ (by omega), hb])
      · rw [act_write]
        refine ⟨.inr ⟨rfl, by simp only [pWrite]; omega, blank_length⟩, h.other blank_length (fun hk => (by rw [hkn] at hk; cases hk)), fun _ => .inl ⟨pre, rfl, hpre, ?_, fun _ => .inr (lastOf_write_at _ _ _)⟩, fun hh => absurd hh hne⟩
        rcases A.blot with hb | hb
        · rcases List.mem_cons.1 hb with hb | hb
          · simp only [pWrite, PAct.mk.injEq] at hb; omega
          · exact .inl hb
        · exact .inr (by rw [Sw.write_ne _ _ (by omega), hb])
  · have e := B.acts
    rcases Nat.lt_or_ge k (nPieces t) with hk | hk
    · have hl : k < (bodyActs (1 - wr.half) t).length := by rw [bodyActs_length]; exact hk
      have hg := bodyActs_get (1 - wr.half) t hk
      rw [List.getElem?_eq_getElem hl] at hg
      rw [List.drop_eq_getElem_cons hl, Option.some.inj hg] at e
      simp only [List.cons_append, List.cons.injEq] at e
      obtain ⟨rfl, rfl⟩ := e
      rw [act_write]
      have hpl : (pad ((t.drop (64 * k)).take 64)).length = 64 := pieceAt_length t k
      refine ⟨.inr ⟨rfl, by simp only [pWrite]; omega, hpl⟩, h.other hpl (fun hkn => ?_), fun _ => .inr (.inl ⟨k + 1, rfl, hk, ?_, fun hkn => ?_, fun j hj => ?_⟩), fun hh => by simp [tail3] at hh⟩
      · exact (h.safe hkn).2.body (by rw [B.blot]; intro x hx; simp only [List.mem_cons, List.not_mem_nil, or_false] at hx; rw [hx]; exact readHead_blank) (by omega) hpl
      · rw [Sw.write_ne _ _ (by omega)]; exact B.blot
      · rw [Sw.write_ne _ _ (by omega)]; exact B.other hkn
      · by_cases ej : j = k
        · subst ej; rw [lastOf_write_at]; rfl
        · rw [Sw.write_ne _ _ (by omega)]; exact B.done j (by omega)
    · have hl : (bodyActs (1 - wr.half) t).drop k = [] := List.drop_eq_nil_of_le (by rw [bodyActs_length]; exact hk)
      rw [hl] at e
      simp only [List.nil_append, tail3, List.cons.injEq] at e
      obtain ⟨rfl, rfl⟩ := e
      rw [act_settle]
      refine ⟨.inl rfl, h.sync, fun _ => .inr (.inr (.inl ⟨rfl, by rw [sync_at, B.blot, lastOf_one], fun hkn => by rw [sync_at, B.other hkn, lastOf_one], fun j hj => ⟨_, rfl⟩, fun j hj => by rw [sync_at, B.done j (by omega)]⟩)), fun hh => by simp at hh⟩
  · have e := C.acts
    simp only [List.cons.injEq] at e
    obtain ⟨rfl, rfl⟩ := e
    have ea : S.act ⟨1, 40 * (1 - wr.half), headBytes ⟨wr.next, markOf t, f⟩⟩ = S.write (40 * (1 - wr.half)) (headBytes ⟨wr.next, markOf t, f⟩) := by simp [Sw.act]
    rw [ea]
    refine ⟨.inr ⟨rfl, by simp only; omega, headBytes_length _⟩, h.other (headBytes_length _) (fun hkn => (h.safe hkn).2.headed C.blot C.written ht hf hok), fun _ => .inr (.inr (.inr ⟨rfl, lastOf_write_at _ _ _, fun hkn => ?_, fun j hj => ?_, fun j hj => ?_⟩)), fun hh => by simp at hh⟩
    · rw [Sw.write_ne _ _ (by omega)]; exact C.other hkn
    · rw [Sw.write_ne _ _ (by omega)]; exact C.written.body j hj
    · rw [Sw.write_ne _ _ (by omega)]; exact C.written.pieces j hj
  · have e := D.acts
    simp only [List.cons.injEq] at e
    obtain ⟨rfl, rfl⟩ := e
    rw [act_settle]
    refine ⟨.inl rfl, h.sync, fun hh => absurd rfl hh, fun _ => ⟨rfl, h.sized.sync, ?_, fits_next wr, fun _ => ⟨⟨rfl, rfl⟩, ?_⟩⟩⟩
    · show 1 - wr.half ≤ 1; omega
    · show Safe S.sync (1 - wr.half) wr.next t f _
      refine safe_done h.sized (by omega) (fits_next wr) ht hf D.written D.head ?_
      rw [show 1 - (1 - wr.half) = wr.half by omega]
      cases hk : wr.known with
      | true =>
        left
        refine ⟨wr.number, h.num, rfl, fun img hl => ?_⟩
        obtain ⟨hd, h1, _, r⟩ := (h.safe hk).2.reads img hl
        exact ⟨hd, h1, r.head⟩
      | false => exact .inr (by rw [D.other hk, lastOf_one])

/-- An act that a sync tells next. -/
theorem prog_next {S wr t f R} (hp : Prog S wr t f R) : R ≠ [] := by
  rcases hp with ⟨pre, A⟩ | ⟨k, B⟩ | C | D
  · rw [A.acts]; simp
  · rw [B.acts]; simp [tail3]
  · rw [C.acts]; simp
  · rw [D.acts]; simp

end Go.Proofs.YtdpfohgkikjeaaaGreat
