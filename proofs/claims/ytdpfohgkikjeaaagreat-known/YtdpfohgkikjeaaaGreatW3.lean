/- Part W 3 of the proof: see its parts. -/
import Derived.Test.YtdpfohgkikjeaaaGreatW2
/- Plain mathematics, on: what may be left of a swap; how it is read; why a sync is safe whenever the computer fails. Nothing of the program. -/
namespace Go.Proofs.YtdpfohgkikjeaaaGreat
set_option linter.unusedVariables false

/-! ### Heads -/
theorem i64_of_len {len : Int} (h0 : -9223372036854775808 ≤ len) (h1 : len < 9223372036854775808) : i64 (len % 18446744073709551616).toNat = len := by
  unfold i64
  split <;> omega

structure Mark.Fits (m : Mark) : Prop where
  sum : m.sum < 4294967296
  len0 : -9223372036854775808 ≤ m.len
  len1 : m.len < 9223372036854775808

theorem markOf_fits {t : Str} (h : t.length < 9223372036854775808) : (markOf t).Fits := ⟨crc_lt t, by simp only [markOf]; omega, by simp only [markOf]; omega⟩

theorem parseMark_le {m : Mark} (h : m.Fits) (r : Str) : parseMark (leMark m ++ r) = m := by
  have e1 : (leMark m ++ r).take 8 = le 8 (m.len % 18446744073709551616).toNat := by
    rw [leMark, List.append_assoc]; exact List.take_left' (le_length _ _)
  have e2 : (leMark m ++ r).drop 8 = le 4 m.sum ++ r := by
    rw [leMark, List.append_assoc]; exact List.drop_left' (le_length _ _)
  have e3 : (le 4 m.sum ++ r).take 4 = le 4 m.sum := List.take_left' (le_length _ _)
  have hs := h.sum
  unfold parseMark
  rw [e1, e2, e3, unle_le, unle_le]
  have h1 : (m.len % 18446744073709551616).toNat % 256 ^ 8 = (m.len % 18446744073709551616).toNat := Nat.mod_eq_of_lt (by omega)
  have h2 : m.sum % 256 ^ 4 = m.sum := Nat.mod_eq_of_lt (by omega)
  rw [h1, h2, i64_of_len h.len0 h.len1]

theorem parseHead_bytes {h : Head} (hn : h.number < 18446744073709551616) (ht : h.text.Fits) (hf : h.file.Fits) : parseHead (headBytes h) = h := by
  have e0 : headBytes h = magic ++ (le 8 h.number ++ (leMark h.text ++ (leMark h.file ++ (zs 20 ++ le 4 (crc (headBody h)))))) := by
    simp only [headBytes, headBody, headTold, List.append_assoc]
  unfold parseHead
  have d8 : (headBytes h).drop 8 = le 8 h.number ++ (leMark h.text ++ (leMark h.file ++ (zs 20 ++ le 4 (crc (headBody h))))) := by
    rw [e0]; exact List.drop_left' rfl
  have d16 : (headBytes h).drop 16 = leMark h.text ++ (leMark h.file ++ (zs 20 ++ le 4 (crc (headBody h)))) := by
    rw [show 16 = 8 + 8 from rfl, ← List.drop_drop, d8]; exact List.drop_left' (le_length _ _)
  have d28 : (headBytes h).drop 28 = leMark h.file ++ (zs 20 ++ le 4 (crc (headBody h))) := by
    rw [show 28 = 16 + 12 from rfl, ← List.drop_drop, d16]; exact List.drop_left' (leMark_length _)
  rw [d16, d28, d8, parseMark_le ht, parseMark_le hf]
  have e1 : (le 8 h.number ++ (leMark h.text ++ (leMark h.file ++ (zs 20 ++ le 4 (crc (headBody h)))))).take 8 = le 8 h.number := List.take_left' (le_length _ _)
  rw [e1, unle_le, Nat.mod_eq_of_lt (show h.number < 256 ^ 8 by omega)]

theorem readHead_bytes {h : Head} (hn : h.number < 18446744073709551616) (ht : h.text.Fits) (hf : h.file.Fits) : readHead (headBytes h) = some h := by
  unfold readHead
  rw [parseHead_bytes hn ht hf, if_pos rfl]

def blank : Str := pad []
theorem blank_length : blank.length = 64 := pad_length (by simp)

theorem readHead_blank : readHead blank = none := by
  unfold readHead
  rw [if_neg]
  intro h
  have h2 : (headBytes (parseHead blank)).head? = some 113 := rfl
  rw [h] at h2
  revert h2
  decide

theorem readHead_fits {s : Str} {h : Head} (hr : readHead s = some h) : h.number < 18446744073709551616 ∧ h.text.Fits ∧ h.file.Fits := by
  have hl := fun (l : Str) (n k : Nat) (hl : (l.take n).length ≤ n) (hk : 256 ^ n = k) => Nat.lt_of_lt_of_le (unle_lt (l.take n)) (hk ▸ Nat.pow_le_pow_right (by decide) hl)
  have hlt : ∀ (l : Str) (n : Nat), (l.take n).length ≤ n := fun l n => by rw [List.length_take]; omega
  have hi : ∀ n : Nat, n < 18446744073709551616 → -9223372036854775808 ≤ i64 n ∧ i64 n < 9223372036854775808 := fun n hn => by
    unfold i64; split <;> omega
  have hm : ∀ l : Str, (parseMark l).Fits := fun l => by
    have h8 := hi _ (hl l 8 18446744073709551616 (hlt _ _) (by decide))
    exact ⟨hl _ 4 4294967296 (hlt _ _) (by decide), h8.1, h8.2⟩
  unfold readHead at hr
  split at hr
  · cases hr
    exact ⟨hl _ 8 18446744073709551616 (hlt _ _) (by decide), hm _, hm _⟩
  · cases hr

theorem later_succ {n : Nat} (h : n < 18446744073709551616) : isLater ((n + 1) % 18446744073709551616) n = true := by
  unfold isLater i64
  rw [decide_eq_true_iff]
  split <;> omega
theorem not_later_succ {n : Nat} (h : n < 18446744073709551616) : isLater n ((n + 1) % 18446744073709551616) = false := by
  unfold isLater i64
  rw [decide_eq_false_iff_not]
  split <;> omega

/-! ### Reading a swap -/
abbrev Img := Nat → Str
abbrev Sw := Nat → List Str

def IsText (t : Str) : Prop := ∃ ls, TextOk ls ∧ textOf ls = t
def bodyOf (img : Img) (h : Nat) : Str := ((List.range 39).map fun j => img (40 * h + 1 + j)).flatten

structure ReadsHalf (img : Img) (h : Nat) (hd : Head) (t : Str) : Prop where
  head : readHead (img (40 * h)) = some hd
  len0 : 0 ≤ hd.text.len
  len1 : hd.text.len ≤ ((bodyOf img h).length : Int)
  text : t = (bodyOf img h).take hd.text.len.toNat
  sum : crc t = hd.text.sum
  fits : IsText t

theorem ReadsHalf.unique {img h hd t hd' t'} (a : ReadsHalf img h hd t) (b : ReadsHalf img h hd' t') : hd' = hd ∧ t' = t := by
  have e : hd' = hd := Option.some.inj (b.head.symm.trans a.head)
  subst e
  exact ⟨rfl, b.text.trans a.text.symm⟩

/-- What is found. -/
structure Finds (img : Img) (h : Nat) (hd : Head) (t : Str) : Prop where
  half : h ≤ 1
  reads : ReadsHalf img h hd t
  first : h = laterHalf (img 0) (img 40) ∨ ∀ hd' t', ¬ ReadsHalf img (1 - h) hd' t'

theorem laterHalf_le (a b : Str) : laterHalf a b ≤ 1 := by
  unfold laterHalf
  split
  · omega
  · omega
  · split <;> omega

theorem Finds.unique {img h hd t h' hd' t'} (a : Finds img h hd t) (b : Finds img h' hd' t') : h' = h ∧ hd' = hd ∧ t' = t := by
  have hh : h' = h := by
    have ha := a.half; have hb := b.half
    have hl := laterHalf_le (img 0) (img 40)
    rcases a.first with ha' | ha'
    · rcases b.first with hb' | hb'
      · omega
      · by_cases e : h' = h
        · exact e
        · exact absurd a.reads (by have := hb' hd t; rwa [show 1 - h' = h by omega] at this)
    · by_cases e : h' = h
      · exact e
      · exact absurd b.reads (by have := ha' hd' t'; rwa [show 1 - h = h' by omega] at this)
  subst hh
  exact ⟨rfl, a.reads.unique b.reads⟩

/-- Two images that agree are read alike. -/
theorem bodyOf_congr {img img' : Img} {h : Nat} (hh : h ≤ 1) (e : ∀ i, i < 400 → img' i = img i) : bodyOf img' h = bodyOf img h := by
  unfold bodyOf
  congr 1
  refine List.map_congr_left fun j hj => e _ ?_
  have := List.mem_range.1 hj
  omega

theorem ReadsHalf.congr {img img' : Img} {h hd t} (hh : h ≤ 1) (e : ∀ i, i < 400 → img' i = img i) (r : ReadsHalf img h hd t) : ReadsHalf img' h hd t :=
  ⟨by rw [e _ (by omega)]; exact r.head, r.len0, by rw [bodyOf_congr hh e]; exact r.len1, by rw [bodyOf_congr hh e]; exact r.text, r.sum, r.fits⟩

theorem Finds.congr {img img' : Img} {h hd t} (e : ∀ i, i < 400 → img' i = img i) (f : Finds img h hd t) : Finds img' h hd t :=
  ⟨f.half, f.reads.congr f.half e, by
    rw [e 0 (by omega), e 40 (by omega)]
    exact f.first.imp id (fun g hd' t' r => g hd' t' (r.congr (by omega) (fun i hi => (e i hi).symm)))⟩

/-- Only one half has a head. -/
theorem finds_lone {img : Img} {h : Nat} {hd : Head} {t : Str} (hh : h ≤ 1) (r : ReadsHalf img h hd t) (ho : readHead (img (40 * (1 - h))) = none) : Finds img h hd t := by
  refine ⟨hh, r, .inr fun hd' t' r' => ?_⟩
  have := r'.head
  rw [ho] at this
  cases this

/-- The half with the number behind the other's. -/
theorem finds_later {img : Img} {h : Nat} {hd hd' : Head} {t : Str} (hh : h ≤ 1) (r : ReadsHalf img h hd t) (ho : readHead (img (40 * (1 - h))) = some hd') (hn : hd'.number < 18446744073709551616) (e : hd.number = (hd'.number + 1) % 18446744073709551616) : Finds img h hd t := by
  refine ⟨hh, r, .inl ?_⟩
  have hr := r.head
  have h1 : isLater hd.number hd'.number = true := by rw [e]; exact later_succ hn
  have h2 : isLater hd'.number hd.number = false := by rw [e]; exact not_later_succ hn
  rcases Nat.lt_or_ge h 1 with hc | hc
  · obtain rfl : h = 0 := by omega
    unfold laterHalf
    rw [show img 0 = img (40 * 0) from rfl, show img 40 = img (40 * (1 - 0)) from rfl, hr, ho]
    simp only [h2]; rfl
  · obtain rfl : h = 1 := by omega
    unfold laterHalf
    rw [show img 0 = img (40 * (1 - 1)) from rfl, show img 40 = img (40 * 1) from rfl, hr, ho]
    simp only [h1]; rfl

/-! ### What may be left -/
/-- What may be left of a swap. -/
def Left (S : Sw) (img : Img) : Prop := ∀ i, i < 400 → img i ∈ S i

structure Sized (S : Sw) : Prop where
  some : ∀ i, i < 400 → S i ≠ []
  size : ∀ i, i < 400 → ∀ x ∈ S i, x.length = 64

theorem Sized.left {S : Sw} (h : Sized S) : ∃ img, Left S img := by
  refine ⟨fun i => (S i).headD [], fun i hi => ?_⟩
  have := h.some i hi
  cases hS : S i with
  | nil => exact absurd hS this
  | cons x l => simp [hS]

def lastOf (l : List Str) : Str := l.getLastD []
theorem lastOf_mem {l : List Str} (h : l ≠ []) : lastOf l ∈ l := by
  unfold lastOf
  rw [List.getLastD_eq_getLast?, List.getLast?_eq_some_getLast h]
  exact List.getLast_mem h
theorem lastOf_snoc (l : List Str) (x : Str) : lastOf (l ++ [x]) = x := by simp [lastOf]
theorem lastOf_one (x : Str) : lastOf [x] = x := rfl

def Sw.write (S : Sw) (a : Nat) (x : Str) : Sw := fun i => if i = a then S i ++ [x] else S i
def Sw.sync (S : Sw) : Sw := fun i => [lastOf (S i)]
def Sw.act (S : Sw) (a : PAct) : Sw := if a.kind = 1 then S.write a.at_ a.data else if a.kind = 2 then S.sync else S

theorem Sw.write_at (S : Sw) (a : Nat) (x : Str) : S.write a x a = S a ++ [x] := by simp [Sw.write]
theorem Sw.write_ne (S : Sw) {a i : Nat} (x : Str) (h : i ≠ a) : S.write a x i = S i := by simp [Sw.write, h]

theorem Sized.write {S : Sw} (h : Sized S) {a : Nat} {x : Str} (hx : x.length = 64) : Sized (S.write a x) := by
  refine ⟨fun i hi => ?_, fun i hi y hy => ?_⟩
  · by_cases e : i = a
    · subst e; rw [Sw.write_at]; simp
    · rw [Sw.write_ne _ _ e]; exact h.some i hi
  · by_cases e : i = a
    · subst e; rw [Sw.write_at] at hy
      rcases List.mem_append.1 hy with hy | hy
      · exact h.size i hi y hy
      · simp at hy; subst hy; exact hx
    · rw [Sw.write_ne _ _ e] at hy; exact h.size i hi y hy

theorem Sized.sync {S : Sw} (h : Sized S) : Sized S.sync := by
  refine ⟨fun i _ => by simp [Sw.sync], fun i hi y hy => ?_⟩
  simp only [Sw.sync, List.mem_cons, List.not_mem_nil, or_false] at hy
  subst hy
  exact h.size i hi _ (lastOf_mem (h.some i hi))

theorem Left.sync {S : Sw} (h : Sized S) {img : Img} (hl : Left S.sync img) : Left S img := fun i hi => by
  have := hl i hi
  simp only [Sw.sync, List.mem_cons, List.not_mem_nil, or_false] at this
  rw [this]
  exact lastOf_mem (h.some i hi)

theorem Left.at {S : Sw} {img : Img} (h : Left S img) {i : Nat} (hi : i < 400) {x : Str} (e : S i = [x]) : img i = x := by
  have := h i hi; rw [e] at this; simpa using this

/-! ### The state that outlives all -/
/-- The half h, of number n, holds the text t0, with the mark f0, and is safe; whatever is left, what is found is ok. -/
structure Safe (S : Sw) (h n : Nat) (t0 : Str) (f0 : Mark) (ok : Str → Mark → Prop) : Prop where
  sized : Sized S
  half : h ≤ 1
  num : n < 18446744073709551616
  own : ∀ j, j < 40 → ∃ x, S (40 * h + j) = [x]
  reads : ∀ img, Left S img → ∃ hd, hd.number = n ∧ hd.file = f0 ∧ ReadsHalf img h hd t0
  all : ∀ img, Left S img → ∀ h' hd t, Finds img h' hd t → ok t hd.file
  other : (∀ x ∈ S (40 * (1 - h)), readHead x = none) ∨ (∀ j, j < 39 → ∃ x, S (40 * (1 - h) + 1 + j) = [x])

theorem Safe.mono {S h n t0 f0} {ok ok' : Str → Mark → Prop} (a : Safe S h n t0 f0 ok) (e : ∀ t f, ok t f → ok' t f) : Safe S h n t0 f0 ok' :=
  ⟨a.sized, a.half, a.num, a.own, a.reads, fun img hl h' hd t hf => e _ _ (a.all img hl h' hd t hf), a.other⟩

/-- Something is always found. -/
theorem Safe.finds {S h n t0 f0 ok} (a : Safe S h n t0 f0 ok) {img : Img} (hl : Left S img) : ∃ h' hd t, Finds img h' hd t := by
  obtain ⟨hd, _, _, r⟩ := a.reads img hl
  by_cases hh : ∃ hd' t', ReadsHalf img (1 - h) hd' t'
  · obtain ⟨hd', t', r'⟩ := hh
    by_cases e : h = laterHalf (img 0) (img 40)
    · exact ⟨h, hd, t0, a.half, r, .inl e⟩
    · have := laterHalf_le (img 0) (img 40)
      have := a.half
      exact ⟨1 - h, hd', t', by omega, r', .inl (by omega)⟩
  · exact ⟨h, hd, t0, a.half, r, .inr fun hd' t' r' => hh ⟨hd', t', r'⟩⟩

/-- The text that the safe half holds is ok. -/
theorem Safe.ok0 {S h n t0 f0 ok} (a : Safe S h n t0 f0 ok) (hb : ∀ x ∈ S (40 * (1 - h)), readHead x = none) : ok t0 f0 := by
  obtain ⟨img, hl⟩ := a.sized.left
  obtain ⟨hd, _, hf, r⟩ := a.reads img hl
  rw [← hf]
  have := a.half
  exact a.all img hl h hd t0 (finds_lone a.half r (hb _ (hl _ (by omega))))

theorem Safe.sync {S h n t0 f0 ok} (a : Safe S h n t0 f0 ok) : Safe S.sync h n t0 f0 ok := by
  have hh := a.half
  refine ⟨a.sized.sync, a.half, a.num, fun j _ => ⟨_, rfl⟩, fun img hl => a.reads img (hl.sync a.sized), fun img hl => a.all img (hl.sync a.sized), .inr fun j _ => ⟨_, rfl⟩⟩

theorem left_of_write {S : Sw} {a : Nat} {x : Str} {img : Img} (hl : Left (S.write a x) img) (hm : img a ∈ S a) : Left S img := fun i hi => by
  by_cases e : i = a
  · subst e; exact hm
  · have := hl i hi; rwa [Sw.write_ne _ _ e] at this

theorem bodyOf_write_other {S : Sw} {img : Img} {a h : Nat} {y : Str} (h1 : a < 40 * h + 1 ∨ 40 * h + 40 ≤ a) : bodyOf (fun i => if i = a then y else img i) h = bodyOf img h := by
  unfold bodyOf
  congr 1
  refine List.map_congr_left fun j hj => ?_
  have := List.mem_range.1 hj
  show (if 40 * h + 1 + j = a then y else img (40 * h + 1 + j)) = _
  rw [if_neg (by omega)]

/-- A sector of the half that is not safe is written: what stays is what is read of the other half. -/
theorem Safe.reads_write {S h n t0 f0 ok} (a : Safe S h n t0 f0 ok) {p : Nat} {x : Str} (hp : p < 400) (hne : p < 40 * h ∨ 40 * h + 40 ≤ p) : ∀ img, Left (S.write p x) img → ∃ hd, hd.number = n ∧ hd.file = f0 ∧ ReadsHalf img h hd t0 := by
  intro img hl
  -- the same image, but for what is written
  obtain ⟨y, hy⟩ : ∃ y, y ∈ S p := by
    have := a.sized.some p hp
    cases hS : S p with
    | nil => exact absurd hS this
    | cons y l => exact ⟨y, by simp⟩
  have hl' : Left S (fun i => if i = p then y else img i) := fun i hi => by
    by_cases e : i = p
    · subst e; simpa using hy
    · simp only [e, if_false]; have := hl i hi; rwa [Sw.write_ne _ _ e] at this
  obtain ⟨hd, h1, h2, r⟩ := a.reads _ hl'
  have hb : bodyOf (fun i => if i = p then y else img i) h = bodyOf img h := bodyOf_write_other (S := S) (by omega)
  refine ⟨hd, h1, h2, ?_⟩
  have hr : readHead (if 40 * h = p then y else img (40 * h)) = some hd := r.head
  rw [if_neg (by omega)] at hr
  exact ⟨hr, r.len0, by rw [← hb]; exact r.len1, by rw [← hb]; exact r.text, r.sum, r.fits⟩

/-- The head of the other half is blotted out. -/
theorem Safe.blot {S h n t0 f0 ok} (a : Safe S h n t0 f0 ok) (hok : ok t0 f0) : Safe (S.write (40 * (1 - h)) blank) h n t0 f0 ok := by
  have hh := a.half
  refine ⟨a.sized.write blank_length, a.half, a.num, fun j hj => ?_, a.reads_write (by omega) (by omega), fun img hl h' hd t hf => ?_, ?_⟩
  · rw [Sw.write_ne _ _ (by omega)]; exact a.own j hj
  · by_cases e : img (40 * (1 - h)) ∈ S (40 * (1 - h))
    · exact a.all img (left_of_write hl e) h' hd t hf
    · have := hl (40 * (1 - h)) (by omega)
      rw [Sw.write_at] at this
      rcases List.mem_append.1 this with hm | hm
      · exact absurd hm e
      · simp only [List.mem_cons, List.not_mem_nil, or_false] at hm
        obtain ⟨hd0, _, hf0, r0⟩ := a.reads_write (x := blank) (p := 40 * (1 - h)) (by omega) (by omega) img hl
        have hfi := finds_lone a.half r0 (by rw [hm]; exact readHead_blank)
        obtain ⟨_, rfl, rfl⟩ := hfi.unique hf
        rw [hf0]; exact hok
  · rcases a.other with ho | ho
    · left
      intro x hx
      rw [Sw.write_at] at hx
      rcases List.mem_append.1 hx with hx | hx
      · exact ho x hx
      · simp only [List.mem_cons, List.not_mem_nil, or_false] at hx; rw [hx]; exact readHead_blank
    · right
      intro j hj
      rw [Sw.write_ne _ _ (by omega)]; exact ho j hj

/-- The bytes of the other half are written, while it has no head. -/
theorem Safe.body {S h n t0 f0 ok} (a : Safe S h n t0 f0 ok) (hb : ∀ x ∈ S (40 * (1 - h)), readHead x = none) {j : Nat} (hj : j < 39) {x : Str} (hx : x.length = 64) : Safe (S.write (40 * (1 - h) + 1 + j) x) h n t0 f0 ok := by
  have hh := a.half
  have hok := a.ok0 hb
  have hb' : ∀ y ∈ (S.write (40 * (1 - h) + 1 + j) x) (40 * (1 - h)), readHead y = none := fun y hy => by
    rw [Sw.write_ne _ _ (by omega)] at hy; exact hb y hy
  refine ⟨a.sized.write hx, a.half, a.num, fun i hi => ?_, a.reads_write (by omega) (by omega), fun img hl h' hd t hf => ?_, .inl hb'⟩
  · rw [Sw.write_ne _ _ (by omega)]; exact a.own i hi
  · obtain ⟨hd0, _, hf0, r0⟩ := a.reads_write (x := x) (p := 40 * (1 - h) + 1 + j) (by omega) (by omega) img hl
    have hfi := finds_lone a.half r0 (hb' _ (hl _ (by omega)))
    obtain ⟨_, rfl, rfl⟩ := hfi.unique hf
    rw [hf0]; exact hok

/-- A piece of a text, as a sector. -/
def pieceAt (t : Str) (j : Nat) : Str := pad ((t.drop (64 * j)).take 64)
theorem pieceAt_length (t : Str) (j : Nat) : (pieceAt t j).length = 64 := pad_length (by rw [List.length_take]; omega)
def nPieces (t : Str) : Nat := (t.length + 63) / 64

theorem piece_full {t : Str} {j : Nat} (h : 64 * (j + 1) ≤ t.length) : pieceAt t j = (t.drop (64 * j)).take 64 := by
  unfold pieceAt pad
  rw [List.length_take, List.length_drop, show 64 - min 64 (t.length - 64 * j) = 0 by omega]
  simp [zs]

/-- The sectors that hold a text's pieces begin with the text. -/
theorem pieces_text (t : Str) : ∀ (N : Nat), t.length ≤ 64 * N → ∀ f : Nat → Str, (∀ j, j < nPieces t → f j = pieceAt t j) → (∀ j, j < N → (f j).length = 64) → ((List.range N).map f).flatten.take t.length = t := by
  suffices H : ∀ (N : Nat) (f : Nat → Str), (∀ j, j < N → j < nPieces t → f j = pieceAt t j) → (∀ j, j < N → (f j).length = 64) →
      ((List.range N).map f).flatten.take t.length = t.take (64 * N) ∧ ((List.range N).map f).flatten.length = 64 * N by
    intro N hN f h1 h2
    rw [(H N f (fun j _ hj => h1 j hj) h2).1]
    exact List.take_of_length_le hN
  intro N
  induction N with
  | zero => intro f _ _; simp
  | succ N ih =>
    intro f h1 h2
    obtain ⟨e1, e2⟩ := ih f (fun j hj hn => h1 j (by omega) hn) (fun j hj => h2 j (by omega))
    rw [List.range_succ, List.map_append, List.flatten_append]
    simp only [List.map_cons, List.map_nil, List.flatten_cons, List.flatten_nil, List.append_nil]
    have hl := h2 N (by omega)
    refine ⟨?_, by rw [List.length_append, e2, hl]; omega⟩
    rcases Nat.lt_or_ge N (nPieces t) with hn | hn
    · unfold nPieces at hn
      rw [List.take_append, e1, e2, h1 N (by omega) (by unfold nPieces; omega)]
      rw [show 64 * (N + 1) = 64 * N + 64 by omega, List.take_add]
      congr 1
      unfold pieceAt pad
      rw [List.take_append, List.length_take, List.length_drop]
      rcases Nat.lt_or_ge (t.length - 64 * N) 64 with hc | hc
      · rw [show min 64 (t.length - 64 * N) = t.length - 64 * N by omega, Nat.sub_self, List.take_zero, List.append_nil]
        rw [List.take_of_length_le (l := (t.drop (64 * N)).take 64) (by rw [List.length_take, List.length_drop]; omega)]
      · rw [List.take_take, show min 64 (t.length - 64 * N) = 64 by omega, show min (t.length - 64 * N) 64 = 64 by omega, show 64 - 64 = 0 by omega]
        simp [zs]
    · unfold nPieces at hn
      have h0 : t.length - (((List.range N).map f).flatten).length ≤ 0 := by rw [e2]; omega
      rw [List.take_append, e1, show t.length - (((List.range N).map f).flatten).length = 0 by omega, List.take_zero, List.append_nil, List.take_of_length_le (l := t) (by omega), List.take_of_length_le (l := t) (by omega)]

theorem bodyOf_length {img : Img} {h : Nat} (hs : ∀ j, j < 39 → (img (40 * h + 1 + j)).length = 64) : (bodyOf img h).length = 2496 := by
  unfold bodyOf
  suffices H : ∀ N, N ≤ 39 → (((List.range N).map fun j => img (40 * h + 1 + j)).flatten).length = 64 * N by exact H 39 (by omega)
  intro N hN
  induction N with
  | zero => rfl
  | succ N ih =>
    rw [List.range_succ, List.map_append, List.flatten_append, List.length_append, ih (by omega)]
    simp [hs N (by omega)]
    omega

/-- A half that holds a text whole. -/
theorem reads_written {img : Img} {h : Nat} {hd : Head} {t : Str} (ht : IsText t) (hm : hd.text = markOf t) (hh : readHead (img (40 * h)) = some hd) (hs : ∀ j, j < 39 → (img (40 * h + 1 + j)).length = 64) (hp : ∀ j, j < nPieces t → img (40 * h + 1 + j) = pieceAt t j) : ReadsHalf img h hd t := by
  obtain ⟨ls, hl, rfl⟩ := ht
  have hlen := hl.length
  have e : hd.text.len.toNat = (textOf ls).length := by rw [hm]; simp [markOf]
  refine ⟨hh, by rw [hm]; simp [markOf], ?_, ?_, by rw [hm]; rfl, ⟨ls, hl, rfl⟩⟩
  · rw [bodyOf_length hs, hm]; simp only [markOf]; omega
  · rw [e]
    exact (pieces_text (textOf ls) 39 (by omega) (fun j => img (40 * h + 1 + j)) hp hs).symm

/-- What is written of a sync, from the blot on: the sectors of the half. -/
structure Written (S : Sw) (h : Nat) (t : Str) : Prop where
  body : ∀ j, j < 39 → ∃ x, S (40 * h + 1 + j) = [x]
  pieces : ∀ j, j < nPieces t → S (40 * h + 1 + j) = [pieceAt t j]

/-- The new head is written. -/
theorem Safe.headed {S h n t0 f0 ok t f} (a : Safe S h n t0 f0 ok) (hb : S (40 * (1 - h)) = [blank]) (hw : Written S (1 - h) t) (ht : IsText t) (hf : Mark.Fits f) (hok : ok t f) :
    Safe (S.write (40 * (1 - h)) (headBytes ⟨(n + 1) % 18446744073709551616, markOf t, f⟩)) h n t0 f0 ok := by
  have hh := a.half
  have hnum := a.num
  have hok0 := a.ok0 (by rw [hb]; intro x hx; simp only [List.mem_cons, List.not_mem_nil, or_false] at hx; rw [hx]; exact readHead_blank)
  obtain ⟨ls, hls, hlt⟩ := id ht
  have htl : t.length < 9223372036854775808 := by rw [← hlt]; have := hls.length; omega
  have hrd : readHead (headBytes ⟨(n + 1) % 18446744073709551616, markOf t, f⟩) = some ⟨(n + 1) % 18446744073709551616, markOf t, f⟩ := readHead_bytes (Nat.mod_lt _ (by decide)) (markOf_fits htl) hf
  refine ⟨a.sized.write (headBytes_length _), a.half, a.num, fun j hj => ?_, a.reads_write (by omega) (by omega), fun img hl h' hd t' hfi => ?_, .inr fun j hj => ?_⟩
  · rw [Sw.write_ne _ _ (by omega)]; exact a.own j hj
  · by_cases e : img (40 * (1 - h)) ∈ S (40 * (1 - h))
    · exact a.all img (left_of_write hl e) h' hd t' hfi
    · have := hl (40 * (1 - h)) (by omega)
      rw [Sw.write_at] at this
      rcases List.mem_append.1 this with hm | hm
      · exact absurd hm e
      · simp only [List.mem_cons, List.not_mem_nil, or_false] at hm
        obtain ⟨hd0, hn0, hf0, r0⟩ := a.reads_write (x := headBytes ⟨(n + 1) % 18446744073709551616, markOf t, f⟩) (p := 40 * (1 - h)) (by omega) (by omega) img hl
        have hbody : ∀ j, j < 39 → img (40 * (1 - h) + 1 + j) ∈ S (40 * (1 - h) + 1 + j) := fun j hj => by
          have := hl (40 * (1 - h) + 1 + j) (by omega); rwa [Sw.write_ne _ _ (by omega)] at this
        have r : ReadsHalf img (1 - h) ⟨(n + 1) % 18446744073709551616, markOf t, f⟩ t := by
          refine reads_written ht rfl (by rw [hm]; exact hrd) (fun j hj => a.sized.size _ (by omega) _ (hbody j hj)) (fun j hj => ?_)
          have h39 : nPieces t ≤ 39 := by unfold nPieces; rw [← hlt]; have := hls.length; omega
          have := hbody j (by omega)
          rw [hw.pieces j hj] at this
          simpa using this
        have hfi' := finds_later (hd' := hd0) (by omega) r (by rw [show 1 - (1 - h) = h by omega]; exact r0.head) (by rw [hn0]; exact hnum) (by rw [hn0])
        obtain ⟨_, rfl, rfl⟩ := hfi'.unique hfi
        exact hok
  · rw [Sw.write_ne _ _ (by omega)]; exact hw.body j hj

/-- The last Sync: the half that was written is the safe one. -/
theorem safe_done {S : Sw} {h n : Nat} {t : Str} {f : Mark} (hS : Sized S) (hh : h ≤ 1) (hn : n < 18446744073709551616) (ht : IsText t) (hf : Mark.Fits f) (hw : Written S h t) (hhead : lastOf (S (40 * h)) = headBytes ⟨n, markOf t, f⟩)
    (ho : (∃ m, m < 18446744073709551616 ∧ n = (m + 1) % 18446744073709551616 ∧ ∀ img, Left S img → ∃ hd, hd.number = m ∧ readHead (img (40 * (1 - h))) = some hd) ∨ lastOf (S (40 * (1 - h))) = blank) :
    Safe S.sync h n t f (fun t' f' => t' = t ∧ f' = f) := by
  obtain ⟨ls, hls, hlt⟩ := id ht
  have htl : t.length < 9223372036854775808 := by rw [← hlt]; have := hls.length; omega
  have h39 : nPieces t ≤ 39 := by unfold nPieces; rw [← hlt]; have := hls.length; omega
  have hrd : readHead (headBytes ⟨n, markOf t, f⟩) = some ⟨n, markOf t, f⟩ := readHead_bytes hn (markOf_fits htl) hf
  have hr : ∀ img, Left S.sync img → ReadsHalf img h ⟨n, markOf t, f⟩ t := fun img hl => by
    have h0 := hl.at (i := 40 * h) (by omega) rfl
    refine reads_written ht rfl (by rw [h0, hhead]; exact hrd) (fun j hj => hS.sync.size _ (by omega) _ (hl _ (by omega))) (fun j hj => ?_)
    have h1 := hl.at (i := 40 * h + 1 + j) (by omega) rfl
    rw [h1, hw.pieces j hj]; rfl
  refine ⟨hS.sync, hh, hn, fun j _ => ⟨_, rfl⟩, fun img hl => ⟨_, rfl, rfl, hr img hl⟩, fun img hl h' hd t' hfi => ?_, .inr fun j _ => ⟨_, rfl⟩⟩
  have hfi' : Finds img h ⟨n, markOf t, f⟩ t := by
    rcases ho with ⟨m, hm, hnm, ho⟩ | ho
    · obtain ⟨hd', h1, h2⟩ := ho img (hl.sync hS)
      exact finds_later hh (hr img hl) h2 (by rw [h1]; exact hm) (by rw [h1]; exact hnm)
    · have h0 := hl.at (i := 40 * (1 - h)) (by omega) rfl
      exact finds_lone hh (hr img hl) (by rw [h0, ho]; exact readHead_blank)
  obtain ⟨_, rfl, rfl⟩ := hfi'.unique hfi
  exact ⟨rfl, rfl⟩

/-- A swap that was read back, all of it safe. -/
theorem safe_found {img : Img} {h : Nat} {hd : Head} {t : Str} (hs : ∀ i, i < 400 → (img i).length = 64) (hfi : Finds img h hd t) : Safe (fun i => [img i]) h hd.number t hd.file (fun t' f' => t' = t ∧ f' = hd.file) := by
  have he : ∀ img', Left (fun i => [img i]) img' → ∀ i, i < 400 → img' i = img i := fun img' hl i hi => hl.at hi rfl
  refine ⟨⟨fun i _ => by simp, fun i hi x hx => ?_⟩, hfi.half, (readHead_fits hfi.reads.head).1, fun j _ => ⟨_, rfl⟩, fun img' hl => ⟨hd, rfl, rfl, hfi.reads.congr hfi.half (he img' hl)⟩, fun img' hl h' hd' t' hfi' => ?_, .inr fun j _ => ⟨_, rfl⟩⟩
  · simp only [List.mem_cons, List.not_mem_nil, or_false] at hx; rw [hx]; exact hs i hi
  · obtain ⟨_, rfl, rfl⟩ := (hfi.congr (he img' hl)).unique hfi'
    exact ⟨rfl, rfl⟩

end Go.Proofs.YtdpfohgkikjeaaaGreat
/- Plain mathematics, on: a sync, act by act. Nothing of the program. -/
namespace Go.Proofs.YtdpfohgkikjeaaaGreat
set_option linter.unusedVariables false
set_option linter.unusedSimpArgs false

def tail3 (h n : Nat) (t : Str) (f : Mark) : List PAct := [pSettle, ⟨1, 40 * h, headBytes ⟨n, markOf t, f⟩⟩, pSettle]

/-- What is known of the swap: whatever acts were done. -/
structure SwOk (S : Sw) (wr : Wr) (t0 : Str) (f0 : Mark) (ok : Str → Mark → Prop) : Prop where
  sized : Sized S
  half : wr.half ≤ 1
  num : wr.number < 18446744073709551616
  safe : wr.known = true → ok t0 f0 ∧ Safe S wr.half wr.number t0 f0 ok

theorem SwOk.mono {S wr t0 f0} {ok ok' : Str → Mark → Prop} (a : SwOk S wr t0 f0 ok) (e : ∀ t f, ok t f → ok' t f) : SwOk S wr t0 f0 ok' :=
  ⟨a.sized, a.half, a.num, fun hk => ⟨e _ _ (a.safe hk).1, (a.safe hk).2.mono e⟩⟩

/-- How far a sync has come: the acts R are left. -/
structure PhA (S : Sw) (wr : Wr) (t : Str) (f : Mark) (R pre : List PAct) : Prop where
  acts : R = pre ++ pSettle :: (bodyActs (1 - wr.half) t ++ tail3 (1 - wr.half) wr.next t f)
  each : ∀ p ∈ pre, p = pSettle ∨ p = pWrite (40 * (1 - wr.half)) [] ∨ (wr.known = false ∧ p = pWrite (40 * wr.half) [])
  blot : pWrite (40 * (1 - wr.half)) [] ∈ pre ∨ lastOf (S (40 * (1 - wr.half))) = blank
  other : wr.known = false → pWrite (40 * wr.half) [] ∈ pre ∨ lastOf (S (40 * wr.half)) = blank
structure PhB (S : Sw) (wr : Wr) (t : Str) (f : Mark) (R : List PAct) (k : Nat) : Prop where
  acts : R = (bodyActs (1 - wr.half) t).drop k ++ tail3 (1 - wr.half) wr.next t f
  le : k ≤ nPieces t
  blot : S (40 * (1 - wr.half)) = [blank]
  other : wr.known = false → S (40 * wr.half) = [blank]
  done : ∀ j, j < k → lastOf (S (40 * (1 - wr.half) + 1 + j)) = pieceAt t j
structure PhC (S : Sw) (wr : Wr) (t : Str) (f : Mark) (R : List PAct) : Prop where
  acts : R = [⟨1, 40 * (1 - wr.half), headBytes ⟨wr.next, markOf t, f⟩⟩, pSettle]
  blot : S (40 * (1 - wr.half)) = [blank]
  other : wr.known = false → S (40 * wr.half) = [blank]
  written : Written S (1 - wr.half) t
structure PhD (S : Sw) (wr : Wr) (t : Str) (f : Mark) (R : List PAct) : Prop where
  acts : R = [pSettle]
  head : lastOf (S (40 * (1 - wr.half))) = headBytes ⟨wr.next, markOf t, f⟩
  other : wr.known = false → S (40 * wr.half) = [blank]
  written : Written S (1 - wr.half) t

def Prog (S : Sw) (wr : Wr) (t : Str) (f : Mark) (R : List PAct) : Prop := (∃ pre, PhA S wr t f R pre) ∨ (∃ k, PhB S wr t f R k) ∨ PhC S wr t f R ∨ PhD S wr t f R

theorem bodyActs_length (h : Nat) (t : Str) : (bodyActs h t).length = nPieces t := by simp [bodyActs, nPieces]
theorem bodyActs_get (h : Nat) (t : Str) {k : Nat} (hk : k < nPieces t) : (bodyActs h t)[k]? = some (pWrite (40 * h + 1 + k) ((t.drop (64 * k)).take 64)) := by
  unfold bodyActs
  rw [List.getElem?_map, List.getElem?_range (by unfold nPieces at hk; exact hk)]
  rfl

theorem acts_eq (wr : Wr) (t : Str) (f : Mark) : wr.acts t f = ((if wr.unsettled then [pSettle] else []) ++ pWrite (40 * (1 - wr.half)) [] :: (if wr.known then [] else [pWrite (40 * wr.half) []])) ++ pSettle :: (bodyActs (1 - wr.half) t ++ tail3 (1 - wr.half) wr.next t f) := by
  simp only [Wr.acts, tail3, Wr.head, List.append_assoc, List.cons_append, List.nil_append]

theorem prog_start (S : Sw) (wr : Wr) (t : Str) (f : Mark) : Prog S wr t f (wr.acts t f) := by
  refine .inl ⟨_, acts_eq wr t f, fun p hp => ?_, .inl (by simp), fun hk => .inl (by simp [hk])⟩
  simp only [List.mem_append, List.mem_cons] at hp
  rcases hp with hp | hp | hp
  · split at hp
    · simp at hp; exact .inl hp
    · cases hp
  · exact .inr (.inl hp)
  · cases hk : wr.known with
    | true => rw [hk] at hp; simp at hp
    | false => rw [hk] at hp; simp at hp; exact .inr (.inr ⟨rfl, hp⟩)

theorem acts_ne (wr : Wr) (t : Str) (f : Mark) : wr.acts t f ≠ [] := by rw [acts_eq]; simp

theorem acts_length (wr : Wr) {t : Str} (f : Mark) (h : t.length ≤ 2460) : (wr.acts t f).length ≤ 46 := by
  rw [acts_eq]
  simp only [List.length_append, List.length_cons, bodyActs_length, tail3, List.length_nil]
  have : nPieces t ≤ 39 := by unfold nPieces; omega
  have h1 : (if wr.unsettled = true then [pSettle] else []).length ≤ 1 := by split <;> simp
  have h2 : (if wr.known = true then [] else [pWrite (40 * wr.half) []]).length ≤ 1 := by split <;> simp
  omega

/-- An act of a sync. -/
def ActOk (a : PAct) : Prop := a = pSettle ∨ (a.kind = 1 ∧ a.at_ < 400 ∧ a.data.length = 64)

theorem act_settle (S : Sw) : S.act pSettle = S.sync := by simp [Sw.act]
theorem act_write (S : Sw) (p : Nat) (l : Str) : S.act (pWrite p l) = S.write p (pad l) := by simp [Sw.act, pWrite]

theorem sync_at (S : Sw) (i : Nat) : S.sync i = [lastOf (S i)] := rfl
theorem lastOf_write_at (S : Sw) (a : Nat) (x : Str) : lastOf (S.write a x a) = x := by rw [Sw.write_at, lastOf_snoc]

theorem SwOk.sync {S wr t0 f0 ok} (a : SwOk S wr t0 f0 ok) : SwOk S.sync wr t0 f0 ok := ⟨a.sized.sync, a.half, a.num, fun hk => ⟨(a.safe hk).1, (a.safe hk).2.sync⟩⟩

theorem SwOk.other {S wr t0 f0 ok} (a : SwOk S wr t0 f0 ok) {p : Nat} {x : Str} (hx : x.length = 64) (h : wr.known = true → Safe (S.write p x) wr.half wr.number t0 f0 ok) : SwOk (S.write p x) wr t0 f0 ok :=
  ⟨a.sized.write hx, a.half, a.num, fun hk => ⟨(a.safe hk).1, h hk⟩⟩

theorem fits_next (wr : Wr) : wr.next < 18446744073709551616 := Nat.mod_lt _ (by decide)

/-- An act of a sync is done. -/
theorem prog_step {S : Sw} {wr : Wr} {t0 t : Str} {f0 f : Mark} {ok : Str → Mark → Prop} {a : PAct} {R : List PAct} (h : SwOk S wr t0 f0 ok) (ht : IsText t) (hf : f.Fits) (hok : ok t f) (hp : Prog S wr t f (a :: R)) :
    ActOk a ∧ SwOk (S.act a) wr t0 f0 ok ∧ (R ≠ [] → Prog (S.act a) wr t f R) ∧ (R = [] → a = pSettle ∧ SwOk (S.act a) wr.written t f (fun t' f' => t' = t ∧ f' = f)) := by
  have hh := h.half
  have h39 : nPieces t ≤ 39 := by obtain ⟨ls, hls, rfl⟩ := ht; have := hls.length; unfold nPieces; omega
  rcases hp with ⟨pre, A⟩ | ⟨k, B⟩ | C | D
  · cases pre with
    | nil =>
      have e := A.acts
      simp only [List.nil_append, List.cons.injEq] at e
      obtain ⟨rfl, rfl⟩ := e
      rw [act_settle]
      have hb : lastOf (S (40 * (1 - wr.half))) = blank := A.blot.resolve_left (by simp)
      refine ⟨.inl rfl, h.sync, fun _ => .inr (.inl ⟨0, rfl, Nat.zero_le _, by rw [sync_at, hb], fun hk => by rw [sync_at, (A.other hk).resolve_left (by simp)], fun j hj => by omega⟩), fun hh => by simp [tail3] at hh⟩
    | cons p pre =>
      have e := A.acts
      simp only [List.cons_append, List.cons.injEq] at e
      obtain ⟨rfl, rfl⟩ := e
      have hpre := fun q hq => A.each q (List.mem_cons_of_mem _ hq)
      have hne : pre ++ pSettle :: (bodyActs (1 - wr.half) t ++ tail3 (1 - wr.half) wr.next t f) ≠ [] := by simp
      rcases A.each a (by simp) with rfl | rfl | ⟨hkn, rfl⟩
      · rw [act_settle]
        refine ⟨.inl rfl, h.sync, fun _ => .inl ⟨pre, rfl, hpre, ?_, fun hk => ?_⟩, fun hh => absurd hh hne⟩
        · rcases A.blot with hb | hb
          · rcases List.mem_cons.1 hb with hb | hb
            · simp [pWrite] at hb
            · exact .inl hb
          · exact .inr (by rw [sync_at, lastOf_one, hb])
        · rcases A.other hk with hb | hb
          · rcases List.mem_cons.1 hb with hb | hb
            · simp [pWrite] at hb
            · exact .inl hb
          · exact .inr (by rw [sync_at, lastOf_one, hb])
      · rw [act_write]
        refine ⟨.inr ⟨rfl, by simp only [pWrite]; omega, blank_length⟩, h.other blank_length (fun hk => (h.safe hk).2.blot (h.safe hk).1), fun _ => .inl ⟨pre, rfl, hpre, .inr (lastOf_write_at _ _ _), fun hk => ?_⟩, fun hh => absurd hh hne⟩
        rcases A.other hk with hb | hb
        · rcases List.mem_cons.1 hb with hb | hb
          · simp only [pWrite, PAct.mk.injEq] at hb; omega
          · exact .inl hb
        · exact .inr (by rw [Sw.write_ne _ _ (by omega), hb])
      · rw [act_write]
        refine ⟨.inr ⟨rfl, by simp only [pWrite]; omega, blank_length⟩, h.other blank_length (fun hk => (by rw [hkn] at hk; cases hk)), fun _ => .inl ⟨pre, rfl, hpre, ?_, fun _ => .inr (lastOf_write_at _ _ _)⟩, fun hh => absurd hh hne⟩
        rcases A.blot with hb | hb
        · rcases List.mem_cons.1 hb with hb | hb
          · simp only [pWrite, PAct.mk.injEq] at hb; omega
          · exact .inl hb
        · exact .inr (by rw [Sw.write_ne _ _ (by omega), hb])
  · have e := B.acts
    rcases Nat.lt_or_ge k (nPieces t) with hk | hk
    · have hl : k < (bodyActs (1 - wr.half) t).length := by rw [bodyActs_length]; exact hk
      have hg := bodyActs_get (1 - wr.half) t hk
      rw [List.getElem?_eq_getElem hl] at hg
      rw [List.drop_eq_getElem_cons hl, Option.some.inj hg] at e
      simp only [List.cons_append, List.cons.injEq] at e
      obtain ⟨rfl, rfl⟩ := e
      rw [act_write]
      have hpl : (pad ((t.drop (64 * k)).take 64)).length = 64 := pieceAt_length t k
      refine ⟨.inr ⟨rfl, by simp only [pWrite]; omega, hpl⟩, h.other hpl (fun hkn => ?_), fun _ => .inr (.inl ⟨k + 1, rfl, hk, ?_, fun hkn => ?_, fun j hj => ?_⟩), fun hh => by simp [tail3] at hh⟩
      · exact (h.safe hkn).2.body (by rw [B.blot]; intro x hx; simp only [List.mem_cons, List.not_mem_nil, or_false] at hx; rw [hx]; exact readHead_blank) (by omega) hpl
      · rw [Sw.write_ne _ _ (by omega)]; exact B.blot
      · rw [Sw.write_ne _ _ (by omega)]; exact B.other hkn
      · by_cases ej : j = k
        · subst ej; rw [lastOf_write_at]; rfl
        · rw [Sw.write_ne _ _ (by omega)]; exact B.done j (by omega)
    · have hl : (bodyActs (1 - wr.half) t).drop k = [] := List.drop_eq_nil_of_le (by rw [bodyActs_length]; exact hk)
      rw [hl] at e
      simp only [List.nil_append, tail3, List.cons.injEq] at e
      obtain ⟨rfl, rfl⟩ := e
      rw [act_settle]
      refine ⟨.inl rfl, h.sync, fun _ => .inr (.inr (.inl ⟨rfl, by rw [sync_at, B.blot, lastOf_one], fun hkn => by rw [sync_at, B.other hkn, lastOf_one], fun j hj => ⟨_, rfl⟩, fun j hj => by rw [sync_at, B.done j (by omega)]⟩)), fun hh => by simp at hh⟩
  · have e := C.acts
    simp only [List.cons.injEq] at e
    obtain ⟨rfl, rfl⟩ := e
    have ea : S.act ⟨1, 40 * (1 - wr.half), headBytes ⟨wr.next, markOf t, f⟩⟩ = S.write (40 * (1 - wr.half)) (headBytes ⟨wr.next, markOf t, f⟩) := by simp [Sw.act]
    rw [ea]
    refine ⟨.inr ⟨rfl, by simp only; omega, headBytes_length _⟩, h.other (headBytes_length _) (fun hkn => (h.safe hkn).2.headed C.blot C.written ht hf hok), fun _ => .inr (.inr (.inr ⟨rfl, lastOf_write_at _ _ _, fun hkn => ?_, fun j hj => ?_, fun j hj => ?_⟩)), fun hh => by simp at hh⟩
    · rw [Sw.write_ne _ _ (by omega)]; exact C.other hkn
    · rw [Sw.write_ne _ _ (by omega)]; exact C.written.body j hj
    · rw [Sw.write_ne _ _ (by omega)]; exact C.written.pieces j hj
  · have e := D.acts
    simp only [List.cons.injEq] at e
    obtain ⟨rfl, rfl⟩ := e
    rw [act_settle]
    refine ⟨.inl rfl, h.sync, fun hh => absurd rfl hh, fun _ => ⟨rfl, h.sized.sync, ?_, fits_next wr, fun _ => ⟨⟨rfl, rfl⟩, ?_⟩⟩⟩
    · show 1 - wr.half ≤ 1; omega
    · show Safe S.sync (1 - wr.half) wr.next t f _
      refine safe_done h.sized (by omega) (fits_next wr) ht hf D.written D.head ?_
      rw [show 1 - (1 - wr.half) = wr.half by omega]
      cases hk : wr.known with
      | true =>
        left
        refine ⟨wr.number, h.num, rfl, fun img hl => ?_⟩
        obtain ⟨hd, h1, _, r⟩ := (h.safe hk).2.reads img hl
        exact ⟨hd, h1, r.head⟩
      | false => exact .inr (by rw [D.other hk, lastOf_one])

/-- An act that a sync tells next. -/
theorem prog_next {S wr t f R} (hp : Prog S wr t f R) : R ≠ [] := by
  rcases hp with ⟨pre, A⟩ | ⟨k, B⟩ | C | D
  · rw [A.acts]; simp
  · rw [B.acts]; simp [tail3]
  · rw [C.acts]; simp
  · rw [D.acts]; simp

end Go.Proofs.YtdpfohgkikjeaaaGreat
/- The statements' swap, file and desk, in plain mathematics. Nothing of the program. -/
namespace Go.Proofs.YtdpfohgkikjeaaaGreat
set_option linter.unusedVariables false
set_option linter.unusedSimpArgs false

/-! ### Raw numbers -/
/-- Which of n things the raw number c speaks of. -/
def pickN (c : Int) (n : Nat) : Nat := (if c < 0 then -(c + 1) else c).toNat % n
theorem pickN_lt (c : Int) {n : Nat} (h : 0 < n) : pickN c n < n := Nat.mod_lt _ h
/-- A raw number fits. -/
def RawOk (c : Int) : Prop := -9223372036854775808 ≤ c ∧ c < 9223372036854775808

def lineByte (c : Int) (i : Nat) : UInt8 := if pickN (c.tdiv 41 + 7 * (i : Int)) 256 = 10 then 120 else UInt8.ofNat (pickN (c.tdiv 41 + 7 * (i : Int)) 256)
def lineN (c : Int) : Str := (List.range (pickN c 41)).map (lineByte c)
theorem lineN_ok (c : Int) : LineOk (lineN c) := by
  constructor
  · have := pickN_lt c (n := 41) (by decide)
    simp only [lineN, List.length_map, List.length_range]; omega
  · intro h
    simp only [lineN, List.mem_map, List.mem_range] at h
    obtain ⟨i, _, h⟩ := h
    unfold lineByte at h
    have hp := pickN_lt (c.tdiv 41 + 7 * (i : Int)) (n := 256) (by decide)
    split at h
    · exact absurd h (by decide)
    · rename_i hne
      have := congrArg UInt8.toNat h
      simp at this
      omega
def linesN (raw : List Int) : List Str := (raw.take 60).map lineN
theorem linesN_ok (raw : List Int) : TextOk (linesN raw) := by
  refine ⟨by simp only [linesN, List.length_map, List.length_take]; omega, fun l hl => ?_⟩
  simp only [linesN, List.mem_map] at hl
  obtain ⟨c, _, rfl⟩ := hl
  exact lineN_ok c

/-! ### The disk -/
structure DiskS where
  sw : List (List Str)
  file : Str
  before : Str
  renamed : Bool
  safe : Nat
  new : Str
  newSafe : Nat

namespace DiskS
def S (d : DiskS) : Sw := fun i => d.sw.getD i [[]]
def act (d : DiskS) (a : PAct) : DiskS :=
  if a.kind = 1 then { d with sw := d.sw.set a.at_ (d.sw.getD a.at_ [] ++ [a.data]) }
  else if a.kind = 2 then { d with sw := d.sw.map fun l => [lastOf l] }
  else if a.kind = 3 then { d with new := [], newSafe := 0 }
  else if a.kind = 4 then { d with new := d.new ++ a.data }
  else if a.kind = 5 then { d with newSafe := d.new.length }
  else if a.kind = 6 then { d with before := if d.renamed then d.before else d.file, renamed := true, file := d.new, safe := d.newSafe }
  else if a.kind = 7 then { d with renamed := false }
  else d
def of (secs : List Str) (file : Str) : DiskS := ⟨secs.map fun s => [s], file, [], false, 0, [], 0⟩
def now (d : DiskS) : List Str := d.sw.map lastOf

/-- What may be left of the sectors. -/
def Leaves (d : DiskS) (secs : List Str) : Prop := secs.length = d.sw.length ∧ ∀ i, i < d.sw.length → secs.getD i [] ∈ d.sw.getD i [[]]
/-- What may be left of the file. -/
def LeavesFile (d : DiskS) (f : Str) : Prop := f = d.file ∨ (d.renamed = true ∧ (f = d.before ∨ ∃ n, d.safe ≤ n ∧ n ≤ d.file.length ∧ f = d.file.take n))

theorem S_of (secs : List Str) (file : Str) : (of secs file).S = fun i => [(secs[i]?).getD []] := by
  funext i
  simp only [S, of, List.getD_eq_getElem?_getD, List.getElem?_map]
  cases secs[i]? <;> rfl

theorem S_write (d : DiskS) {a : Nat} (h : a < d.sw.length) (x : Str) : S { d with sw := d.sw.set a (d.sw.getD a [] ++ [x]) } = d.S.write a x := by
  funext i
  unfold S Sw.write
  simp only [List.getD_eq_getElem?_getD, List.getElem?_set]
  by_cases e : a = i
  · subst e; simp [h]
  · simp [e, Ne.symm e]

theorem S_sync (d : DiskS) : S { d with sw := d.sw.map fun l => [lastOf l] } = d.S.sync := by
  funext i
  unfold S Sw.sync
  simp only [List.getD_eq_getElem?_getD, List.getElem?_map]
  cases d.sw[i]? <;> rfl

/-- How long all of a disk may be. -/
structure Lens (d : DiskS) (N L : Nat) : Prop where
  sw : d.sw.length = 400
  rows : ∀ r ∈ d.sw, r.length ≤ N
  some : ∀ r ∈ d.sw, r ≠ []
  size : ∀ r ∈ d.sw, ∀ s ∈ r, s.length = 64
  file : d.file.length ≤ L
  before : d.before.length ≤ L
  new : d.new.length ≤ L
  safe : d.renamed = true → d.safe ≤ d.file.length
  newSafe : d.newSafe ≤ d.new.length
end DiskS

theorem Sized.of_lens {d : DiskS} {N L : Nat} (h : d.Lens N L) : Sized d.S := by
  have hg : ∀ i, i < 400 → d.S i ∈ d.sw := fun i hi => by
    have h1 : i < d.sw.length := by rw [h.sw]; exact hi
    show d.sw.getD i [[]] ∈ d.sw
    simp [List.getD_eq_getElem?_getD, h1]
  exact ⟨fun i hi => h.some _ (hg i hi), fun i hi => h.size _ (hg i hi)⟩

theorem lastOf_mem' {r : List Str} (h : r ≠ []) : lastOf r ∈ r := lastOf_mem h

theorem DiskS.Lens.mono {d : DiskS} {N M L : Nat} (h : d.Lens N L) (hm : N ≤ M) : d.Lens M L := ⟨h.sw, fun r hr => Nat.le_trans (h.rows r hr) hm, h.some, h.size, h.file, h.before, h.new, h.safe, h.newSafe⟩

/-- An act that may be done. -/
def RightA (a : PAct) : Prop := (a.kind = 1 ∧ a.at_ < 400 ∧ a.data.length = 64) ∨ (a.kind = 4 ∧ a.at_ = 0) ∨ ((a.kind = 2 ∨ a.kind = 3 ∨ a.kind = 5 ∨ a.kind = 6 ∨ a.kind = 7) ∧ a.at_ = 0 ∧ a.data = [])

theorem ActOk.right {a : PAct} (h : ActOk a) : RightA a := by
  rcases h with rfl | ⟨h1, h2, h3⟩
  · exact .inr (.inr ⟨.inl rfl, rfl, rfl⟩)
  · exact .inl ⟨h1, h2, h3⟩

theorem DiskS.Lens.act {d : DiskS} {N L : Nat} (h : d.Lens N L) {a : PAct} (hr : RightA a) (hn : a.kind = 4 → d.new.length + a.data.length ≤ L) (hs : 1 ≤ N) : (d.act a).Lens (N + 1) L := by
  have hm := h.mono (Nat.le_succ N)
  unfold DiskS.act
  rcases hr with ⟨hk, h1, h2⟩ | ⟨hk, h1⟩ | ⟨hk, h1, h2⟩
  · rw [if_pos hk]
    have hlt : a.at_ < d.sw.length := by rw [h.sw]; exact h1
    have hmem : d.sw.getD a.at_ [] ∈ d.sw := by simp [List.getD_eq_getElem?_getD, hlt]
    have hset : ∀ r, r ∈ d.sw.set a.at_ (d.sw.getD a.at_ [] ++ [a.data]) → r ∈ d.sw ∨ r = d.sw.getD a.at_ [] ++ [a.data] := fun r hr => List.mem_or_eq_of_mem_set hr
    refine ⟨by rw [List.length_set]; exact h.sw, fun r hr => ?_, fun r hr => ?_, fun r hr s hs => ?_, hm.file, hm.before, hm.new, hm.safe, hm.newSafe⟩
    · rcases hset r hr with hr | rfl
      · exact hm.rows r hr
      · have := h.rows _ hmem; simp only [List.length_append, List.length_cons, List.length_nil]; omega
    · rcases hset r hr with hr | rfl
      · exact h.some r hr
      · simp
    · rcases hset r hr with hr | rfl
      · exact h.size r hr s hs
      · rcases List.mem_append.1 hs with hs | hs
        · exact h.size _ hmem s hs
        · simp at hs; rw [hs]; exact h2
  · simp only [hk]
    refine ⟨hm.sw, hm.rows, hm.some, hm.size, hm.file, hm.before, ?_, hm.safe, ?_⟩
    · have := hn hk; simpa using this
    · have := h.newSafe; show d.newSafe ≤ (d.new ++ a.data).length; simp only [List.length_append]; omega
  · rcases hk with hk | hk | hk | hk | hk
    · simp only [hk]
      refine ⟨by simpa using h.sw, fun r hr => ?_, fun r hr => ?_, fun r hr s hs => ?_, hm.file, hm.before, hm.new, hm.safe, hm.newSafe⟩
      · obtain ⟨l, _, rfl⟩ := List.mem_map.1 (show r ∈ d.sw.map (fun l => [lastOf l]) from hr); simp
      · obtain ⟨l, _, rfl⟩ := List.mem_map.1 (show r ∈ d.sw.map (fun l => [lastOf l]) from hr); simp
      · obtain ⟨l, hl, rfl⟩ := List.mem_map.1 (show r ∈ d.sw.map (fun l => [lastOf l]) from hr)
        simp only [List.mem_cons, List.not_mem_nil, or_false] at hs
        rw [hs]; exact h.size l hl _ (lastOf_mem (h.some l hl))
    · simp only [hk]; exact ⟨hm.sw, hm.rows, hm.some, hm.size, hm.file, hm.before, Nat.zero_le _, hm.safe, Nat.le_refl _⟩
    · simp only [hk]; exact ⟨hm.sw, hm.rows, hm.some, hm.size, hm.file, hm.before, hm.new, hm.safe, Nat.le_refl _⟩
    · simp only [hk]; exact ⟨hm.sw, hm.rows, hm.some, hm.size, hm.new, by show (if d.renamed then d.before else d.file).length ≤ L; split; exact hm.before; exact hm.file, hm.new, fun _ => hm.newSafe, hm.newSafe⟩
    · simp only [hk]; exact ⟨hm.sw, hm.rows, hm.some, hm.size, hm.file, hm.before, hm.new, fun h => (by cases h), hm.newSafe⟩

theorem DiskS.act_sw {d : DiskS} {a : PAct} (hr : RightA a) (h : d.sw.length = 400) : (d.act a).S = d.S.act a := by
  unfold DiskS.act Sw.act
  rcases hr with ⟨hk, h1, h2⟩ | ⟨hk, h1⟩ | ⟨hk, h1, h2⟩
  · rw [if_pos hk, if_pos hk]; exact DiskS.S_write d (by omega) _
  · simp only [hk]; rfl
  · rcases hk with hk | hk | hk | hk | hk
    · simp only [hk]; exact DiskS.S_sync d
    all_goals (simp only [hk]; rfl)

/-! ### The file -/
def FileOk (d : DiskS) (files : List Str) : Prop := d.file ∈ files ∧ (d.renamed = true → d.before ∈ files ∧ d.safe = d.file.length)

theorem FileOk.leaves {d : DiskS} {files : List Str} (h : FileOk d files) {f : Str} (hf : d.LeavesFile f) : f ∈ files := by
  rcases hf with rfl | ⟨hr, rfl | ⟨n, h1, h2, rfl⟩⟩
  · exact h.1
  · exact (h.2 hr).1
  · rw [(h.2 hr).2] at h1
    rw [List.take_of_length_le h1]
    exact h.1

theorem FileOk.more {d : DiskS} {files : List Str} (h : FileOk d files) (x : Str) : FileOk d (files ++ [x]) :=
  ⟨List.mem_append.2 (.inl h.1), fun hr => ⟨List.mem_append.2 (.inl (h.2 hr).1), (h.2 hr).2⟩⟩

/-- How far a Save has come: the acts R are left. -/
def SaveProg (k : DiskS) (t : Str) (R : List PAct) : Prop :=
  R = saveActs t ∨ (k.new = [] ∧ t ≠ [] ∧ R = [⟨4, 0, t⟩, ⟨5, 0, []⟩, ⟨6, 0, []⟩, ⟨7, 0, []⟩]) ∨ (k.new = t ∧ R = [⟨5, 0, []⟩, ⟨6, 0, []⟩, ⟨7, 0, []⟩]) ∨
  (k.new = t ∧ k.newSafe = t.length ∧ R = [⟨6, 0, []⟩, ⟨7, 0, []⟩]) ∨ (k.file = t ∧ R = [⟨7, 0, []⟩])

/-- An act of a Save is done. -/
theorem save_step {k : DiskS} {t : Str} {files : List Str} {a : PAct} {R : List PAct} (hf : FileOk k files) (ht : t ∈ files) (hp : SaveProg k t (a :: R)) :
    RightA a ∧ FileOk (k.act a) files ∧ (a.kind = 4 → k.new.length + a.data.length = t.length) ∧ (R ≠ [] → SaveProg (k.act a) t R) ∧ (R = [] → FileOk (k.act a) [t]) ∧ (k.act a).sw = k.sw := by
  rcases hp with h | ⟨hn, hne, h⟩ | ⟨hn, h⟩ | ⟨hn, hs, h⟩ | ⟨hff, h⟩
  · unfold saveActs at h
    obtain ⟨rfl, h2⟩ := List.cons_eq_cons.1 h
    refine ⟨.inr (.inr ⟨by decide, rfl, rfl⟩), hf, fun h => absurd h (by decide), fun _ => ?_, fun e => by subst e; split at h2 <;> simp at h2, rfl⟩
    by_cases e : t = []
    · subst e; rw [if_pos rfl] at h2; exact .inr (.inr (.inl ⟨rfl, h2⟩))
    · rw [if_neg e] at h2; exact .inr (.inl ⟨rfl, e, h2⟩)
  · obtain ⟨rfl, rfl⟩ := List.cons_eq_cons.1 h
    exact ⟨.inr (.inl ⟨rfl, rfl⟩), hf, fun _ => by simp [hn], fun _ => .inr (.inr (.inl ⟨by simp [DiskS.act, hn], rfl⟩)), (fun e => by cases e), rfl⟩
  · obtain ⟨rfl, rfl⟩ := List.cons_eq_cons.1 h
    exact ⟨.inr (.inr ⟨by decide, rfl, rfl⟩), hf, fun h => absurd h (by decide), fun _ => .inr (.inr (.inr (.inl ⟨hn, by simp [DiskS.act, hn], rfl⟩))), (fun e => by cases e), rfl⟩
  · obtain ⟨rfl, rfl⟩ := List.cons_eq_cons.1 h
    refine ⟨.inr (.inr ⟨by decide, rfl, rfl⟩), ⟨?_, fun _ => ⟨?_, ?_⟩⟩, fun h => absurd h (by decide), fun _ => .inr (.inr (.inr (.inr ⟨hn, rfl⟩))), (fun e => by cases e), rfl⟩
    · show k.new ∈ files; rw [hn]; exact ht
    · show (if k.renamed then k.before else k.file) ∈ files
      split
      · rename_i hr; exact (hf.2 hr).1
      · exact hf.1
    · show k.newSafe = k.new.length; rw [hs, hn]
  · obtain ⟨rfl, rfl⟩ := List.cons_eq_cons.1 h
    refine ⟨.inr (.inr ⟨by decide, rfl, rfl⟩), ⟨hf.1, fun e => (by cases e)⟩, fun h => absurd h (by decide), fun e => absurd rfl e, fun _ => ⟨?_, fun e => by cases e⟩, rfl⟩
    show k.file ∈ [t]; rw [hff]; simp

/-- Acts of a sync leave the file alone. -/
theorem act_file {k : DiskS} {a : PAct} (h : ActOk a) : (k.act a).file = k.file ∧ (k.act a).before = k.before ∧ (k.act a).renamed = k.renamed ∧ (k.act a).safe = k.safe ∧ (k.act a).new = k.new ∧ (k.act a).newSafe = k.newSafe := by
  rcases h with rfl | ⟨h1, _, _⟩
  · exact ⟨rfl, rfl, rfl, rfl, rfl, rfl⟩
  · unfold DiskS.act; rw [if_pos h1]; exact ⟨rfl, rfl, rfl, rfl, rfl, rfl⟩
end Go.Proofs.YtdpfohgkikjeaaaGreat
/- A desk of the statements, in plain mathematics: a document, a disk, what may be read back. Nothing of the program. -/
namespace Go.Proofs.YtdpfohgkikjeaaaGreat
set_option linter.unusedVariables false
set_option linter.unusedSimpArgs false

def lastOne {α : Type} (l : List α) : List α := l.drop (l.length - 1)
theorem lastOne_eq {α : Type} {l : List α} {x : α} (h : l.getLast? = some x) : lastOne l = [x] := by
  obtain ⟨ys, rfl⟩ := List.getLast?_eq_some_iff.1 h
  simp [lastOne]
theorem lastOne_length {α : Type} (l : List α) : (lastOne l).length ≤ l.length := by simp [lastOne]

theorem lastOne_ne {α : Type} {l : List α} (h : l ≠ []) : lastOne l ≠ [] := by
  intro e
  have h1 := List.length_pos_iff.2 h
  have := congrArg List.length e
  simp [lastOne] at this
  omega

theorem DocS.Ok.mk1 {d : DocS} (ok : d.Ok) {acts : List PAct} (hk : d.kind ≠ 0) (ha : acts ≠ []) : DocS.Ok { d with acts := acts } :=
  ⟨⟨ok.text, ok.every1, ok.every2, ok.half, ok.number, ok.sum, ok.len0, ok.len1⟩, ok.counted, ok.kind, ⟨fun _ => ha, fun _ => hk⟩⟩
theorem DocS.Ok.mk0 {d : DocS} (ok : d.Ok) : DocS.Ok { d with kind := 0, acts := [] } :=
  ⟨⟨ok.text, ok.every1, ok.every2, ok.half, ok.number, ok.sum, ok.len0, ok.len1⟩, ok.counted, Nat.zero_le _, by simp⟩
theorem DocS.Ok.succ {d : DocS} (ok : d.Ok) : d.succeeded.Ok := by
  unfold DocS.succeeded
  split
  · have := ok.text.length
    exact ⟨⟨ok.text, ok.every1, ok.every2, ok.half, ok.number, crc_lt _, by simp only [markOf, DocS.text]; omega, by simp only [markOf, DocS.text]; omega⟩, ok.counted, Nat.zero_le _, by simp⟩
  · exact ⟨⟨ok.text, ok.every1, ok.every2, by show 1 - d.wr.half ≤ 1; omega, fits_next d.wr, ok.sum, ok.len0, ok.len1⟩, ok.counted, Nat.zero_le _, by simp⟩
theorem DocS.Ok.done {d : DocS} (ok : d.Ok) (good : Bool) : (d.done good).Ok := by
  unfold DocS.done
  split
  · rename_i h
    have hne : d.acts ≠ [] := fun e => by rw [e] at h; simp at h
    refine ok.mk1 (ok.acts.2 hne) (fun e => ?_)
    have := congrArg List.length e
    simp only [List.length_tail, List.length_nil] at this
    omega
  · split
    · exact ok.succ
    · exact ok.mk0

structure DeskS where
  doc : DocS
  disk : DiskS
  ch : List (Str × Mark)
  files : List Str
  most : Nat
  mf : List Str
  mt : List Str

/-- What holds of a desk; its sizes: N things, L bytes. -/
structure DeskS.Ok (D : DeskS) (N L : Nat) : Prop where
  doc : D.doc.Ok
  lens : D.disk.Lens N L
  swok : ∃ t0 f0, SwOk D.disk.S D.doc.wr t0 f0 (fun t f => (t, f) ∈ D.ch)
  ch : D.ch.length ≤ N
  fl : D.files.length ≤ N
  file : FileOk D.disk D.files
  sync : D.doc.kind = 1 → Prog D.disk.S D.doc.wr D.doc.text D.doc.file D.doc.acts ∧ D.ch.getLast? = some (D.doc.text, D.doc.file)
  save : D.doc.kind = 2 → SaveProg D.disk D.doc.text D.doc.acts ∧ D.files.getLast? = some D.doc.text
  edits : D.doc.edits ≤ N
  most : D.most ≤ D.doc.every
  one : 1 ≤ N
  big : 2460 ≤ L
  few : D.doc.acts.length ≤ 100
  mf0 : D.mf ≠ []
  mfN : D.mf.length ≤ N
  mt0 : D.mt ≠ []
  mtN : D.mt.length ≤ N

namespace DeskS
/-- The act that is to be done is done, or fails. -/
def step (D : DeskS) (good all : Bool) : DeskS :=
  match D.doc.acts with
  | [] => D
  | a :: _ =>
    { D with
      disk := if good || all then D.disk.act a else D.disk
      doc := D.doc.done good
      ch := if good = true ∧ (D.doc.done good).kind = 0 ∧ D.doc.kind = 1 then lastOne D.ch else D.ch
      files := if good = true ∧ (D.doc.done good).kind = 0 ∧ D.doc.kind ≠ 1 then lastOne D.files else D.files
      mf := if good = true ∧ (D.doc.done good).kind = 0 ∧ D.doc.kind ≠ 1 then lastOne D.mf else D.mf
      mt := if good = true ∧ (D.doc.done good).kind = 0 ∧ D.doc.kind = 1 then lastOne D.mt else D.mt }

def work : Nat → Nat → Int → Bool → DeskS → DeskS
  | 0, _, _, _, D => D
  | n + 1, i, fail, all, D => if D.doc.kind = 0 then D else work n (i + 1) fail all (D.step (decide ((i : Int) ≠ fail)) all)

def begun (D : DeskS) : DeskS := if D.doc.kind = 1 then { D with ch := D.ch ++ [(D.doc.text, D.doc.file)], mt := D.mt ++ [D.doc.text] } else D
end DeskS

theorem SwOk.more {S wr t0 f0} {ch : List (Str × Mark)} (h : SwOk S wr t0 f0 (fun t f => (t, f) ∈ ch)) (x : Str × Mark) : SwOk S wr t0 f0 (fun t f => (t, f) ∈ ch ++ [x]) :=
  h.mono fun t f hm => List.mem_append.2 (.inl hm)

theorem succeeded_kind (d : DocS) : d.succeeded.kind = 0 := by unfold DocS.succeeded; split <;> rfl

theorem done_on_eq {d : DocS} {a : PAct} {R : List PAct} (ha : d.acts = a :: R) (hR : R ≠ []) : d.done true = { d with acts := R } := by
  unfold DocS.done
  rw [ha, if_pos ⟨rfl, by cases R with | nil => exact absurd rfl hR | cons x r => simp⟩]
  rfl
theorem done_last_eq {d : DocS} {a : PAct} (ha : d.acts = [a]) : d.done true = d.succeeded := by
  unfold DocS.done
  rw [ha, if_neg (by simp), if_pos rfl]
theorem done_fail_eq (d : DocS) : d.done false = { d with kind := 0, acts := [] } := by
  unfold DocS.done
  rw [if_neg (by simp), if_neg (by simp)]

/-- An act, one way or another. -/
theorem DeskS.Ok.step {D : DeskS} {N L : Nat} (h : D.Ok N L) {a : PAct} {R : List PAct} (ha : D.doc.acts = a :: R) (good all : Bool) : RightA a ∧ (D.step good all).Ok (N + 1) L := by
  have hd' := h.doc.done good
  have hkne : D.doc.kind ≠ 0 := h.doc.acts.2 (by rw [ha]; simp)
  have hk2 := h.doc.kind
  have hone := h.one
  have hbig := h.big
  have hlm := h.lens.mono (Nat.le_succ N)
  have hch := h.ch
  have hfl := h.fl
  have hed := h.edits
  have hmo := h.most
  have hmf : D.mf.length ≤ N + 1 := Nat.le_succ_of_le h.mfN
  have hmfl : (lastOne D.mf).length ≤ N + 1 := Nat.le_trans (lastOne_length _) hmf
  have hmt : D.mt.length ≤ N + 1 := Nat.le_succ_of_le h.mtN
  have hmtl : (lastOne D.mt).length ≤ N + 1 := Nat.le_trans (lastOne_length _) hmt
  have hfew : R.length ≤ 100 := by have := h.few; rw [ha] at this; simp only [List.length_cons] at this; omega
  rcases (by omega : D.doc.kind = 1 ∨ D.doc.kind = 2) with hk | hk
  · -- of a sync
    obtain ⟨hp, hlast⟩ := h.sync hk
    obtain ⟨t0, f0, hsw⟩ := h.swok
    rw [ha] at hp
    obtain ⟨hao, hs1, hs2, hs3⟩ := prog_step hsw ⟨_, h.doc.text, rfl⟩ ⟨h.doc.sum, h.doc.len0, h.doc.len1⟩ (List.mem_of_getLast? hlast) hp
    have hr := hao.right
    have hl' : (D.disk.act a).Lens (N + 1) L := h.lens.act hr (fun e => by rcases hao with rfl | ⟨e1, _⟩ <;> simp_all) hone
    have hS : (D.disk.act a).S = D.disk.S.act a := DiskS.act_sw hr h.lens.sw
    obtain ⟨ef, eb, er, es, _, _⟩ := act_file (k := D.disk) hao
    have hfo : FileOk (D.disk.act a) D.files := by
      unfold FileOk
      rw [ef, eb, er, es]
      exact h.file
    refine ⟨hr, ?_⟩
    cases good with
    | false =>
      have e : D.step false all = { D with disk := if all then D.disk.act a else D.disk, doc := { D.doc with kind := 0, acts := [] } } := by
        unfold DeskS.step
        rw [ha]
        simp [done_fail_eq]
      rw [e]
      cases all with
      | false => exact ⟨h.doc.mk0, hlm, h.swok, by show D.ch.length ≤ _; omega, by show D.files.length ≤ _; omega, h.file, (fun e => by cases e), (fun e => by cases e), by show D.doc.edits ≤ _; omega, hmo, by omega, hbig, by first | exact Nat.zero_le _ | exact hfew, by first | exact h.mf0 | exact lastOne_ne h.mf0, by first | exact hmf | exact hmfl, by first | exact h.mt0 | exact lastOne_ne h.mt0, by first | exact hmt | exact hmtl⟩
      | true => exact ⟨h.doc.mk0, hl', ⟨t0, f0, by show SwOk (D.disk.act a).S _ _ _ _; rw [hS]; exact hs1⟩, by show D.ch.length ≤ _; omega, by show D.files.length ≤ _; omega, hfo, (fun e => by cases e), (fun e => by cases e), by show D.doc.edits ≤ _; omega, hmo, by omega, hbig, by first | exact Nat.zero_le _ | exact hfew, by first | exact h.mf0 | exact lastOne_ne h.mf0, by first | exact hmf | exact hmfl, by first | exact h.mt0 | exact lastOne_ne h.mt0, by first | exact hmt | exact hmtl⟩
    | true =>
      by_cases hR : R = []
      · subst hR
        have e : D.step true all = { D with disk := D.disk.act a, doc := D.doc.succeeded, ch := lastOne D.ch, mt := lastOne D.mt } := by
          unfold DeskS.step
          rw [ha]
          simp [done_last_eq ha, succeeded_kind, hk]
        rw [e, lastOne_eq hlast]
        have e2 : D.doc.succeeded = { D.doc with kind := 0, acts := [], wr := D.doc.wr.written, edits := 0 } := by unfold DocS.succeeded; rw [if_neg (by omega)]
        rw [e2]
        have hok := h.doc.succ
        rw [e2] at hok
        refine ⟨hok, hl', ⟨D.doc.text, D.doc.file, ?_⟩, by simp, by show D.files.length ≤ _; omega, hfo, (fun e => by cases e), (fun e => by cases e), Nat.zero_le _, hmo, by omega, hbig, by first | exact Nat.zero_le _ | exact hfew, by first | exact h.mf0 | exact lastOne_ne h.mf0, by first | exact hmf | exact hmfl, by first | exact h.mt0 | exact lastOne_ne h.mt0, by first | exact hmt | exact hmtl⟩
        show SwOk (D.disk.act a).S _ _ _ _
        rw [hS]
        exact (hs3 rfl).2.mono fun t f ⟨h1, h2⟩ => by subst h1; subst h2; exact List.mem_singleton.2 rfl
      · have e : D.step true all = { D with disk := D.disk.act a, doc := { D.doc with acts := R } } := by
          unfold DeskS.step
          rw [ha]
          simp [done_on_eq ha hR, hk]
        rw [e]
        refine ⟨h.doc.mk1 hkne hR, hl', ⟨t0, f0, by show SwOk (D.disk.act a).S _ _ _ _; rw [hS]; exact hs1⟩, by show D.ch.length ≤ _; omega, by show D.files.length ≤ _; omega, hfo, fun _ => ⟨?_, hlast⟩, (fun e => by rw [hk] at e; cases e), by show D.doc.edits ≤ _; omega, hmo, by omega, hbig, by first | exact Nat.zero_le _ | exact hfew, by first | exact h.mf0 | exact lastOne_ne h.mf0, by first | exact hmf | exact hmfl, by first | exact h.mt0 | exact lastOne_ne h.mt0, by first | exact hmt | exact hmtl⟩
        show Prog (D.disk.act a).S _ _ _ _
        rw [hS]
        exact hs2 hR
  · -- of a Save
    obtain ⟨hp, hlast⟩ := h.save hk
    rw [ha] at hp
    obtain ⟨hr, hf1, hn, hp2, hf2, hsw'⟩ := save_step h.file (List.mem_of_getLast? hlast) hp
    have htl := h.doc.text.length
    have hl' : (D.disk.act a).Lens (N + 1) L := h.lens.act hr (fun e => by have := hn e; have : D.doc.text.length ≤ 2460 := htl; omega) hone
    have hS : (D.disk.act a).S = D.disk.S := by unfold DiskS.S; rw [hsw']
    have hswok : ∃ t0 f0, SwOk (D.disk.act a).S D.doc.wr t0 f0 (fun t f => (t, f) ∈ D.ch) := by rw [hS]; exact h.swok
    refine ⟨hr, ?_⟩
    cases good with
    | false =>
      have e : D.step false all = { D with disk := if all then D.disk.act a else D.disk, doc := { D.doc with kind := 0, acts := [] } } := by
        unfold DeskS.step
        rw [ha]
        simp [done_fail_eq]
      rw [e]
      cases all with
      | false => exact ⟨h.doc.mk0, hlm, h.swok, by show D.ch.length ≤ _; omega, by show D.files.length ≤ _; omega, h.file, (fun e => by cases e), (fun e => by cases e), by show D.doc.edits ≤ _; omega, hmo, by omega, hbig, by first | exact Nat.zero_le _ | exact hfew, by first | exact h.mf0 | exact lastOne_ne h.mf0, by first | exact hmf | exact hmfl, by first | exact h.mt0 | exact lastOne_ne h.mt0, by first | exact hmt | exact hmtl⟩
      | true => exact ⟨h.doc.mk0, hl', hswok, by show D.ch.length ≤ _; omega, by show D.files.length ≤ _; omega, hf1, (fun e => by cases e), (fun e => by cases e), by show D.doc.edits ≤ _; omega, hmo, by omega, hbig, by first | exact Nat.zero_le _ | exact hfew, by first | exact h.mf0 | exact lastOne_ne h.mf0, by first | exact hmf | exact hmfl, by first | exact h.mt0 | exact lastOne_ne h.mt0, by first | exact hmt | exact hmtl⟩
    | true =>
      by_cases hR : R = []
      · subst hR
        have e : D.step true all = { D with disk := D.disk.act a, doc := D.doc.succeeded, files := lastOne D.files, mf := lastOne D.mf } := by
          unfold DeskS.step
          rw [ha]
          simp [done_last_eq ha, succeeded_kind, hk]
        rw [e, lastOne_eq hlast]
        have e2 : D.doc.succeeded = { D.doc with kind := 0, acts := [], file := markOf D.doc.text } := by unfold DocS.succeeded; rw [if_pos hk]
        rw [e2]
        have hok := h.doc.succ
        rw [e2] at hok
        exact ⟨hok, hl', hswok, by show D.ch.length ≤ _; omega, by simp, hf2 rfl, (fun e => by cases e), (fun e => by cases e), by show D.doc.edits ≤ _; omega, hmo, by omega, hbig, by first | exact Nat.zero_le _ | exact hfew, by first | exact h.mf0 | exact lastOne_ne h.mf0, by first | exact hmf | exact hmfl, by first | exact h.mt0 | exact lastOne_ne h.mt0, by first | exact hmt | exact hmtl⟩
      · have e : D.step true all = { D with disk := D.disk.act a, doc := { D.doc with acts := R } } := by
          unfold DeskS.step
          rw [ha]
          simp [done_on_eq ha hR, hk]
        rw [e]
        exact ⟨h.doc.mk1 hkne hR, hl', hswok, by show D.ch.length ≤ _; omega, by show D.files.length ≤ _; omega, hf1, (fun e => by rw [hk] at e; cases e), fun _ => ⟨hp2 hR, hlast⟩, by show D.doc.edits ≤ _; omega, hmo, by omega, hbig, by first | exact Nat.zero_le _ | exact hfew, by first | exact h.mf0 | exact lastOne_ne h.mf0, by first | exact hmf | exact hmfl, by first | exact h.mt0 | exact lastOne_ne h.mt0, by first | exact hmt | exact hmtl⟩

theorem DeskS.Ok.mono {D : DeskS} {N M L : Nat} (h : D.Ok N L) (hm : N ≤ M) : D.Ok M L :=
  ⟨h.doc, h.lens.mono hm, h.swok, Nat.le_trans h.ch hm, Nat.le_trans h.fl hm, h.file, h.sync, h.save, Nat.le_trans h.edits hm, h.most, Nat.le_trans h.one hm, h.big, h.few, h.mf0, Nat.le_trans h.mfN hm, h.mt0, Nat.le_trans h.mtN hm⟩

/-- A job is going on: it has an act. -/
theorem DeskS.Ok.next {D : DeskS} {N L : Nat} (h : D.Ok N L) (hk : D.doc.kind ≠ 0) : ∃ a R, D.doc.acts = a :: R := by
  cases ha : D.doc.acts with
  | nil => exact absurd ha (h.doc.acts.1 hk)
  | cons a R => exact ⟨a, R, rfl⟩

theorem DeskS.Ok.work {L : Nat} {fail : Int} {all : Bool} : ∀ (n i : Nat) {D : DeskS} {N : Nat}, D.Ok N L → (D.work n i fail all).Ok (N + n) L
  | 0, i, D, N, h => h
  | n + 1, i, D, N, h => by
    unfold DeskS.work
    split
    · exact h.mono (by omega)
    · rename_i hk
      obtain ⟨a, R, ha⟩ := h.next hk
      have := Ok.work (fail := fail) (all := all) n (i + 1) (h.step ha (decide ((i : Int) ≠ fail)) all).2
      rw [show N + (n + 1) = N + 1 + n by omega]
      exact this

/-- What a job never turns. -/
theorem step_same (D : DeskS) (good all : Bool) : (D.step good all).doc.lines = D.doc.lines ∧ (D.step good all).doc.every = D.doc.every ∧ (D.step good all).doc.counted = D.doc.counted ∧ (D.step good all).most = D.most ∧ (D.doc.wr.known = true → (D.step good all).doc.wr.known = true) := by
  have hd : (D.doc.done good).lines = D.doc.lines ∧ (D.doc.done good).every = D.doc.every ∧ (D.doc.done good).counted = D.doc.counted ∧ (D.doc.wr.known = true → (D.doc.done good).wr.known = true) := by
    unfold DocS.done DocS.succeeded
    split
    · exact ⟨rfl, rfl, rfl, id⟩
    · split
      · split
        · exact ⟨rfl, rfl, rfl, id⟩
        · exact ⟨rfl, rfl, rfl, fun _ => rfl⟩
      · exact ⟨rfl, rfl, rfl, id⟩
  unfold DeskS.step
  split
  · exact ⟨rfl, rfl, rfl, rfl, id⟩
  · exact ⟨hd.1, hd.2.1, hd.2.2.1, rfl, hd.2.2.2⟩

theorem work_same (fail : Int) (all : Bool) : ∀ (n i : Nat) (D : DeskS), (D.work n i fail all).doc.lines = D.doc.lines ∧ (D.work n i fail all).doc.every = D.doc.every ∧ (D.work n i fail all).doc.counted = D.doc.counted ∧ (D.work n i fail all).most = D.most ∧ (D.doc.wr.known = true → (D.work n i fail all).doc.wr.known = true)
  | 0, i, D => ⟨rfl, rfl, rfl, rfl, id⟩
  | n + 1, i, D => by
    unfold DeskS.work
    split
    · exact ⟨rfl, rfl, rfl, rfl, id⟩
    · have h1 := step_same D (decide ((i : Int) ≠ fail)) all
      have h2 := work_same fail all n (i + 1) (D.step (decide ((i : Int) ≠ fail)) all)
      exact ⟨h2.1.trans h1.1, h2.2.1.trans h1.2.1, h2.2.2.1.trans h1.2.2.1, h2.2.2.2.1.trans h1.2.2.2.1, fun hk => h2.2.2.2.2 (h1.2.2.2.2 hk)⟩

theorem step_mf {D : DeskS} (h : D.mf = D.files) (good all : Bool) : (D.step good all).mf = (D.step good all).files := by
  unfold DeskS.step
  split
  · exact h
  · dsimp only; rw [h]

theorem work_mf (fail : Int) (all : Bool) : ∀ (n i : Nat) {D : DeskS}, D.mf = D.files → (D.work n i fail all).mf = (D.work n i fail all).files
  | 0, i, D, h => h
  | n + 1, i, D, h => by
    unfold DeskS.work
    split
    · exact h
    · exact work_mf fail all n (i + 1) (step_mf h _ _)

theorem map_lastOne {α β : Type} (f : α → β) (l : List α) : (lastOne l).map f = lastOne (l.map f) := by simp [lastOne]
theorem step_mt {D : DeskS} (h : D.mt = D.ch.map (·.1)) (good all : Bool) : (D.step good all).mt = (D.step good all).ch.map (·.1) := by
  unfold DeskS.step
  split
  · exact h
  · dsimp only
    split
    · rw [h, map_lastOne]
    · exact h

theorem work_mt (fail : Int) (all : Bool) : ∀ (n i : Nat) {D : DeskS}, D.mt = D.ch.map (·.1) → (D.work n i fail all).mt = (D.work n i fail all).ch.map (·.1)
  | 0, i, D, h => h
  | n + 1, i, D, h => by
    unfold DeskS.work
    split
    · exact h
    · exact work_mt fail all n (i + 1) (step_mt h _ _)

theorem work_idle {D : DeskS} (h : D.doc.kind = 0) (n i : Nat) (fail : Int) (all : Bool) : D.work n i fail all = D := by
  cases n with
  | zero => rfl
  | succ n => unfold DeskS.work; rw [if_pos h]

/-- All acts of a job are done. -/
theorem work_all {fail : Int} {all : Bool} : ∀ (n i : Nat) (D : DeskS), D.doc.kind ≠ 0 → D.doc.acts ≠ [] → D.doc.acts.length ≤ n → fail < (i : Int) ∨ ((i + D.doc.acts.length : Nat) : Int) ≤ fail →
    D.work n i fail all = { D with disk := D.doc.acts.foldl DiskS.act D.disk, doc := D.doc.succeeded, ch := if D.doc.kind = 1 then lastOne D.ch else D.ch, files := if D.doc.kind ≠ 1 then lastOne D.files else D.files, mf := if D.doc.kind ≠ 1 then lastOne D.mf else D.mf, mt := if D.doc.kind = 1 then lastOne D.mt else D.mt }
  | 0, i, D, hk, hne, hl, hf => by
    exact absurd (List.eq_nil_of_length_eq_zero (by omega)) hne
  | n + 1, i, D, hk, hne, hl, hf => by
    unfold DeskS.work
    rw [if_neg hk]
    cases ha : D.doc.acts with
    | nil => exact absurd ha hne
    | cons a R =>
      rw [ha] at hl hf
      simp only [List.length_cons] at hl hf
      have hg : decide ((i : Int) ≠ fail) = true := by simp only [decide_eq_true_eq]; omega
      rw [hg]
      by_cases hR : R = []
      · subst hR
        have e : D.step true all = { D with disk := D.disk.act a, doc := D.doc.succeeded, ch := if D.doc.kind = 1 then lastOne D.ch else D.ch, files := if D.doc.kind ≠ 1 then lastOne D.files else D.files, mf := if D.doc.kind ≠ 1 then lastOne D.mf else D.mf, mt := if D.doc.kind = 1 then lastOne D.mt else D.mt } := by
          unfold DeskS.step
          rw [ha]
          simp [done_last_eq ha, succeeded_kind]
        rw [e]
        exact work_idle (succeeded_kind _) _ _ _ _
      · have e : D.step true all = { D with disk := D.disk.act a, doc := { D.doc with acts := R } } := by
          unfold DeskS.step
          rw [ha]
          simp [done_on_eq ha hR, hk]
        rw [e]
        rw [work_all n (i + 1) { D with disk := D.disk.act a, doc := { D.doc with acts := R } } hk hR (by show R.length ≤ n; omega) (by show fail < ((i + 1 : Nat) : Int) ∨ ((i + 1 + R.length : Nat) : Int) ≤ fail; omega)]
        have e2 : DocS.succeeded { D.doc with acts := R } = D.doc.succeeded := by unfold DocS.succeeded; rfl
        rw [e2]
        rfl
end Go.Proofs.YtdpfohgkikjeaaaGreat
/- The swap and the file of the statements: the small functions. -/
namespace Go.Proofs.YtdpfohgkikjeaaaGreat
open Go.RowKit
set_option linter.unusedVariables false
set_option linter.unusedSimpArgs false

def iv (c : Int) : Value := .int .i64 c

/-- Numbers that are read: in blocks below B. -/
structure IntsAt (w : World) (B : Nat) (v : Value) (l : List Int) : Prop where
  fits : ∀ x ∈ l, RawOk x
  few : l.length ≤ 9223372036854775807
  low : B ≤ w.heap.size
  at_ : (∃ a c, v = .slice a 0 c ∧ l = []) ∨ ∃ b o c, v = .slice (some ⟨b, o, none⟩) l.length c ∧ b < B ∧ ∀ j x, l[j]? = some x → w.cell? ⟨b, o + j, none⟩ = some (iv x)

theorem IntsAt.kept {S : Blocks} {w w' : World} {B v l} (h : IntsAt w B v l) (k : Kept S w w') (hn : ∀ x, S x → B ≤ x) : IntsAt w' B v l := by
  refine ⟨h.fits, h.few, Nat.le_trans h.low k.size, ?_⟩
  rcases h.at_ with h1 | ⟨b, o, c, hv, hb, hc⟩
  · exact .inl h1
  · refine .inr ⟨b, o, c, hv, hb, fun j x hx => ?_⟩
    have hb2 := h.low
    rw [World.cell?_of_block (w := w) (k.block b (by omega) (fun hs => by have := hn b hs; omega))]
    exact hc j x hx

theorem number_any {w : World} {B : Nat} {v : Value} {l : List Int} (hr : IntsAt w B v l) (i : Nat) (iI : Int) (hi : iI = (i : Int)) (hsm : i ≤ 9223372036854775807) :
    Calls Tryz.prog 17 #[v, .int .i64 iI] w fun e w' => e = .returned (.int .i64 (l.getD i 0)) ∧ w' = w := by
  subst hi
  by_cases hlt : i < l.length
  · rcases hr.at_ with ⟨a, c, rfl, rfl⟩ | ⟨b, o, c, rfl, hb, hc⟩
    · simp at hlt
    have hcj := hc i l[i] (by simp [hlt])
    clear hc
    have e1 : l.getD i 0 = l[i] := by simp [hlt]
    rw [e1]
    generalize l[i] = x at hcj ⊢
    unfold iv at hcj
    clear e1 hr
    generalize l.length = n at *
    go_enter Tryz.func17, Tryz.ntmps17
    go_wp2
    go_ret
    exact ⟨rfl, rfl⟩
  · have e1 : l.getD i 0 = 0 := by simp [Nat.le_of_not_lt hlt]
    rw [e1]
    obtain ⟨pv, n, cv, rfl, hn⟩ : ∃ pv n cv, v = .slice pv n cv ∧ n ≤ i := by
      rcases hr.at_ with ⟨a, c, rfl, rfl⟩ | ⟨b, o, c, rfl, hb, hc⟩
      · exact ⟨_, _, _, rfl, Nat.zero_le _⟩
      · exact ⟨_, _, _, rfl, by omega⟩
    clear hr hlt e1
    go_enter Tryz.func17, Tryz.ntmps17
    go_wp2
    go_ret
    exact ⟨rfl, rfl⟩

/-- The raw number at a place, round and round. -/
def rawN (l : List Int) (i : Nat) : Int := l.getD (i % l.length) 0

theorem rawN_ok {l : List Int} (h : ∀ x ∈ l, RawOk x) (i : Nat) : RawOk (rawN l i) := by
  unfold rawN
  rw [List.getD_eq_getElem?_getD]
  cases hx : l[i % l.length]? with
  | none => exact ⟨by decide, by decide⟩
  | some x => exact h x (List.mem_of_getElem? hx)

theorem raw_any {w : World} {B : Nat} {v : Value} {l : List Int} (hr : IntsAt w B v l) (i : Nat) (iI : Int) (hi : iI = (i : Int)) (hsm : i ≤ 9223372036854775807) :
    Calls Tryz.prog 39 #[v, .int .i64 iI] w fun e w' => e = .returned (.int .i64 (rawN l i)) ∧ w' = w := by
  subst hi
  have hfew := hr.few
  by_cases hlt : 0 < l.length
  · rcases hr.at_ with ⟨a, c, rfl, rfl⟩ | ⟨b, o, c, rfl, hb, hc⟩
    · simp at hlt
    have hj : i % l.length < l.length := Nat.mod_lt _ hlt
    have hcj := hc (i % l.length) l[i % l.length] (by simp [hj])
    clear hc
    have e1 : rawN l i = l[i % l.length] := by simp [rawN, hj]
    rw [e1]
    clear e1
    generalize l[i % l.length] = x at hcj ⊢
    unfold iv at hcj
    clear hr
    have hj2 : Nat.lt (i % l.length) l.length := hj
    clear hj
    generalize hn : l.length = n at *
    have hj3 : i % n < n := hj2
    clear hj2
    generalize hm : i % n = m at *
    have hmI : (i : Int).tmod (n : Int) = (m : Int) := by rw [Int.tmod_eq_emod_of_nonneg (by omega)]; omega
    have hmE : (i : Int) % (n : Int) = (m : Int) := by omega
    have hb : ((n : Int) == 0) = false := by rw [beq_eq_false_iff_ne]; omega
    have hn0 : ¬ (n : Int) = 0 := by omega
    have hm1 : (m : Int) < (n : Int) := by omega
    have hm0 : ¬ (m : Int) < 0 := by omega
    clear hm hn
    go_enter Tryz.func39, Tryz.ntmps39
    go_wp2
    go_ret
    exact ⟨rfl, rfl⟩
  · have e0 : l = [] := List.eq_nil_of_length_eq_zero (by omega)
    subst e0
    obtain ⟨pv, cv, rfl⟩ : ∃ pv cv, v = .slice pv 0 cv := by
      rcases hr.at_ with ⟨a, c, rfl, _⟩ | ⟨b, o, c, rfl, hb, hc⟩
      · exact ⟨_, _, rfl⟩
      · exact ⟨_, _, rfl⟩
    clear hr
    go_enter Tryz.func39, Tryz.ntmps39
    go_wp2
    go_ret
    exact ⟨rfl, rfl⟩

theorem pick_eq (c : Int) (n : Nat) (hc : RawOk c) (h0 : 0 < n) : ((pickN c n : Nat) : Int) = if c < 0 then (-(c + 1)) % (n : Int) else c % (n : Int) := by
  obtain ⟨hc1, hc2⟩ := hc
  unfold pickN
  split
  · rw [Int.natCast_emod, Int.toNat_of_nonneg (by omega)]
  · rw [Int.natCast_emod, Int.toNat_of_nonneg (by omega)]

theorem neg_mod {c n : Int} (h : c < 0) : (-(c + 1)) % n = -((c + 1).tmod n) := by rw [← Int.neg_tmod, Int.tmod_eq_emod_of_nonneg (by omega)]

theorem pick_fs (c : Int) (n : Nat) (nI : Int) (hn : nI = (n : Int)) (hc : RawOk c) (h0 : 0 < n) (hsm : n ≤ 9223372036854775807) (w : World) :
    Calls Tryz.prog 38 #[.int .i64 c, .int .i64 nI] w fun e w' => e = .returned (.int .i64 (pickN c n : Nat)) ∧ w' = w := by
  subst hn
  have he := pick_eq c n hc h0
  obtain ⟨hc1, hc2⟩ := hc
  by_cases h : c < 0
  · rw [if_pos h] at he
    have HE : Hid (((pickN c n : Nat) : Int) = (-(c + 1)) % (n : Int)) := he
    clear he
    have hz : ((n : Int) == 0) = false := by rw [beq_eq_false_iff_ne]; omega
    go_enter Tryz.func38, Tryz.ntmps38
    go_wp2
    go_ret
    exact ⟨by rw [HE.out, neg_mod h]; rfl, rfl⟩
  · rw [if_neg h] at he
    have HE : Hid (((pickN c n : Nat) : Int) = c % (n : Int)) := he
    clear he
    have hz : ((n : Int) == 0) = false := by rw [beq_eq_false_iff_ne]; omega
    go_enter Tryz.func38, Tryz.ntmps38
    go_wp2
    go_ret
    exact ⟨by rw [HE.out]; rfl, rfl⟩

theorem pick_keep (c : Int) (n : Nat) (nI : Int) (hn : nI = (n : Int)) (hc : RawOk c) (h0 : 0 < n) (hsm : n ≤ 9223372036854775807) (w : World) :
    Calls Tryz.prog 23 #[.int .i64 c, .int .i64 nI] w fun e w' => e = .returned (.int .i64 (pickN c n : Nat)) ∧ w' = w := by
  subst hn
  have he := pick_eq c n hc h0
  obtain ⟨hc1, hc2⟩ := hc
  by_cases h : c < 0
  · rw [if_pos h] at he
    have HE : Hid (((pickN c n : Nat) : Int) = (-(c + 1)) % (n : Int)) := he
    clear he
    have hz : ((n : Int) == 0) = false := by rw [beq_eq_false_iff_ne]; omega
    go_enter Tryz.func23, Tryz.ntmps23
    go_wp2
    go_ret
    exact ⟨by rw [HE.out, neg_mod h]; rfl, rfl⟩
  · rw [if_neg h] at he
    have HE : Hid (((pickN c n : Nat) : Int) = c % (n : Int)) := he
    clear he
    have hz : ((n : Int) == 0) = false := by rw [beq_eq_false_iff_ne]; omega
    go_enter Tryz.func23, Tryz.ntmps23
    go_wp2
    go_ret
    exact ⟨by rw [HE.out]; rfl, rfl⟩
end Go.Proofs.YtdpfohgkikjeaaaGreat
/- nought, line, file, one. -/
namespace Go.Proofs.YtdpfohgkikjeaaaGreat
open Go.RowKit
set_option linter.unusedVariables false
set_option linter.unusedSimpArgs false

theorem infoU8 : (Tryz.prog.info? 5).map (fun i => (i.zero, i.size, i.bytes)) = some (some (.int .u8 0), 1, 1) := by kernel_rfl

theorem make_bytes (n : Nat) (h : n ≤ 1000) (u : World) : (Instr.makeSlice 56 (.int .i64 (n : Int)) (.int .i64 (n : Int))).run Tryz.prog u =
    .ok (.slice (some ⟨u.heap.size, 0, none⟩) n n) (u.alloc (.cells (bcells (zs n)).toArray 5)) := by
  obtain ⟨i0, hi, hz0, hz1, hz2⟩ := info_parts infoU8
  have h := run_make (P := Tryz.prog) u 56 5 i0 (.int .u8 0) Tryz.underlying56 hi hz0 .i64 .i64 (n : Int) (n : Int) (by omega) (Int.le_refl _) (by rw [hz2]; omega) (by omega)
  rw [h]
  have e : madeCells (Value.int IntKind.u8 0).cells ((n : Int).toNat * i0.size) = (bcells (zs n)).toArray := by
    rw [hz1, Nat.mul_one, Int.toNat_natCast]
    apply Array.toList_inj.1
    rw [show (Value.int IntKind.u8 0).cells = #[Value.int IntKind.u8 0] from rfl, toList_madeCells_one]
    simp [bcells, zs]
  rw [e]
  simp

theorem nought_any (w : World) : Calls Tryz.prog 60 #[] w fun e w' => e = .returned (sv blank) ∧ Kept no w w' := by
  obtain ⟨b, hb⟩ : ∃ b, b = blank := ⟨_, rfl⟩
  have hbl : b = zs 64 := by rw [hb]; rfl
  obtain ⟨C, hC⟩ : ∃ C, C = (bcells (zs 64)).toArray := ⟨_, rfl⟩
  have hmk : ∀ u : World, (Instr.makeSlice 56 (.int .i64 64) (.int .i64 64)).run Tryz.prog u = .ok (.slice (some ⟨u.heap.size, 0, none⟩) 64 64) (u.alloc (.cells C 5)) := fun u => by
    rw [hC]; exact make_bytes 64 (by decide) u
  have hcv : (convert 56 9 (.slice (some ⟨w.heap.size, 0, none⟩) 64 64)).run Tryz.prog (w.alloc (.cells C 5)) = .ok (sv b) (w.alloc (.cells C 5)) := by
    have hB : BytesAt (w.alloc (.cells C 5)) w.heap.size 0 b := by
      rw [hbl, hC]; exact BytesAt.of_row heap_alloc_same (fun j v h => by simpa using h)
    have := run_bytes_str (P := Tryz.prog) _ _ 9 _ _ _ 64 _ Tryz.underlying56 Tryz.underlying5 Tryz.underlying9 hB
    have hl : b.length = 64 := by rw [hbl]; exact zs_length 64
    rw [hl] at this
    exact this
  rw [← hb]
  clear hb hbl hC
  go_enter Tryz.func60, Tryz.ntmps60
  go_wp2_with fail
  go_ret
  exact ⟨rfl, (Kept.refl _ _).alloc _⟩

theorem tdiv_bd {c : Int} (hc : RawOk c) : -300000000000000000 ≤ c.tdiv 41 ∧ c.tdiv 41 ≤ 300000000000000000 := by
  obtain ⟨h1, h2⟩ := hc
  by_cases h : 0 ≤ c
  · rw [Int.tdiv_eq_ediv_of_nonneg h]; omega
  · have := Int.neg_tdiv (a := -c) (b := 41)
    rw [Int.neg_neg] at this
    rw [this, Int.tdiv_eq_ediv_of_nonneg (by omega)]; omega

/-- What stands in the row of a line that is being made. -/
def lineAt (c : Int) (k : Nat) : Str := ((List.range k).map (lineByte c)) ++ zs (pickN c 41 - k)
theorem lineAt_length (c : Int) {k : Nat} (h : k ≤ pickN c 41) : (lineAt c k).length = pickN c 41 := by simp [lineAt, zs]; omega
theorem lineAt_zero (c : Int) : lineAt c 0 = zs (pickN c 41) := by simp [lineAt]
theorem lineAt_end (c : Int) : lineAt c (pickN c 41) = lineN c := by simp [lineAt, lineN, zs]
theorem lineAt_set (c : Int) {k : Nat} (h : k < pickN c 41) : (lineAt c k).set k (lineByte c k) = lineAt c (k + 1) := by
  unfold lineAt
  rw [List.set_append_right _ _ (by simp)]
  have e : zs (pickN c 41 - k) = 0 :: zs (pickN c 41 - (k + 1)) := by
    rw [show pickN c 41 - k = (pickN c 41 - (k + 1)) + 1 by omega]; rfl
  rw [e, List.range_succ]
  simp
theorem bcells_set (l : Str) (k : Nat) (b : UInt8) : (bcells l).set k (.int .u8 (b.toNat : Int)) = bcells (l.set k b) := by simp [bcells, List.map_set]
theorem bcells_setIf (l : Str) (k : Nat) (b : UInt8) : (bcells l).toArray.setIfInBounds k (.int .u8 (b.toNat : Int)) = (bcells (l.set k b)).toArray := by
  rw [List.setIfInBounds_toArray, bcells_set]

set_option maxHeartbeats 1000000 in
theorem line_any (c : Int) (hc : RawOk c) (w : World) : Calls Tryz.prog 26 #[.int .i64 c] w fun e w' => e = .returned (sv (lineN c)) ∧ Kept no w w' := by
  have hn := pickN_lt c (n := 41) (by decide)
  have hpk := pick_keep c 41 41 rfl hc (by decide) (by decide)
  obtain ⟨hq1, hq2⟩ := tdiv_bd hc
  have h0 := lineAt_zero c
  have hend := lineAt_end c
  have hlen : ∀ k, k ≤ pickN c 41 → (lineAt c k).length = pickN c 41 := fun k hk => lineAt_length c hk
  have hset : ∀ k, k < pickN c 41 → (lineAt c k).set k (lineByte c k) = lineAt c (k + 1) := fun k hk => lineAt_set c hk
  have HS : Hid (∀ k, k < pickN c 41 → (lineAt c k).set k (lineByte c k) = lineAt c (k + 1)) := hset
  have HE : Hid (lineAt c (pickN c 41) = lineN c) := hend
  have HL : Hid (∀ k, k ≤ pickN c 41 → (lineAt c k).length = pickN c 41) := hlen
  have HC : Hid (RawOk c) := hc
  clear hset hend hlen hc
  generalize pickN c 41 = n at *
  have hmk := make_bytes n (by omega)
  rw [← h0] at hmk
  clear h0
  go_enter Tryz.func26, Tryz.ntmps26
  go_wp2_with fail
  refine (hpk w).mono ?_
  rintro e w1 ⟨rfl, hw⟩
  rw [hw]
  clear hw hpk
  go_wp2_with fail
  obtain ⟨hn1, hsz1, hk1⟩ := new1 w (Obj.cells (bcells (lineAt c 0)).toArray 5)
  generalize hG : w.heap.size = g at hn1 hsz1 ⊢
  generalize w.alloc (Obj.cells (bcells (lineAt c 0)).toArray 5) = w1 at hn1 hsz1 hk1 ⊢
  clear hmk
  go_loopw [5] (fun s5 wr => ∃ k : Nat, k ≤ n ∧ s5 = .int .i64 ((k : Nat) : Int) ∧ wr.heap[g]? = some (.cells (bcells (lineAt c k)).toArray 5 (0, 0)) ∧ Kept no w wr) (fun i _ => n - (intOf i).toNat)
  case atStart => exact ⟨0, Nat.zero_le _, rfl, hn1, hk1⟩
  case round =>
    obtain ⟨k, hk, rfl, hh, hkw⟩ := hrel
    have hll := HL.out k hk
    by_cases hlt : k < n
    · have hb : lineByte c k = if pickN (c.tdiv 41 + 7 * (k : Int)) 256 = 10 then 120 else UInt8.ofNat (pickN (c.tdiv 41 + 7 * (k : Int)) 256) := rfl
      have hpk := fun w => pick_keep (c.tdiv 41 + 7 * (k : Int)) 256 256 rfl ⟨by omega, by omega⟩ (by decide) (by decide) w
      have hp := pickN_lt (c.tdiv 41 + 7 * (k : Int)) (n := 256) (by decide)
      go_wp2_with fail
      refine (hpk wr).mono ?_
      rintro e w2 ⟨rfl, hw⟩
      rw [hw]
      clear hw hpk
      generalize pickN (c.tdiv 41 + 7 * (k : Int)) 256 = q at hb hp ⊢
      obtain ⟨hc, hf⟩ := cells_of hh
      obtain ⟨x0, hck⟩ : ∃ x, wr.cell? ⟨g, k, none⟩ = some x := by
        rw [hc, List.getElem?_toArray]
        exact ⟨_, List.getElem?_eq_getElem (by rw [bcells_length]; omega)⟩
      have hfk := hf k
      have hgw : w.heap.size ≤ g := by omega
      clear hc hf
      have HB : Hid (lineByte c k = if q = 10 then 120 else UInt8.ofNat q) := hb
      clear hb
      by_cases h10 : q = 10
      · subst h10
        go_wp2
        refine ⟨⟨k + 1, by omega, by go_num, ?_, ?_⟩, by simp [intOf]; omega⟩
        · have h1 := heap_set_same (o := k) (v := .int .u8 10) hh
          have h2 := heap_set_same (o := k) (v := .int .u8 120) h1
          rw [h2, ← HS.out k hlt, HB.out]
          have h3 := bcells_setIf (lineAt c k) k 120
          simp only [if_true]
          rw [← h3]
          simp
        · exact (hkw.setNew hgw _).setNew hgw _
      · have h10' : ¬ ((q : Int) = 10) := by omega
        go_wp2
        refine ⟨⟨k + 1, by omega, by go_num, ?_, ?_⟩, by simp [intOf]; omega⟩
        · have h1 := heap_set_same (o := k) (v := .int .u8 (q : Int)) hh
          rw [h1, ← HS.out k hlt, HB.out]
          have h3 := bcells_setIf (lineAt c k) k (UInt8.ofNat q)
          simp only [h10, if_false]
          rw [← h3]
          have e : ((UInt8.ofNat q).toNat : Int) = (q : Int) := by simp; omega
          rw [e]
        · exact hkw.setNew hgw _
    · obtain rfl : k = n := by omega
      have hB : BytesAt wr g 0 (lineAt c k) := BytesAt.of_row hh (fun j v h => by simpa using h)
      have hcv := run_bytes_str (P := Tryz.prog) wr 56 9 _ _ _ k _ Tryz.underlying56 Tryz.underlying5 Tryz.underlying9 hB
      rw [hll, HE.out] at hcv
      go_wp2
      go_ret
      exact ⟨rfl, hkw⟩
end Go.Proofs.YtdpfohgkikjeaaaGreat
