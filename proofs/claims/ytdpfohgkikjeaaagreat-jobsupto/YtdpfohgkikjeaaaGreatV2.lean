/- Part 2 of the proof: see its parts. -/
import Derived.Test.YtdpfohgkikjeaaaGreatV1
/- Plain mathematics, on: a sync, act by act. Nothing of the program. -/
namespace Go.Proofs.YtdpfohgkikjeaaaGreat
set_option linter.unusedVariables false
set_option linter.unusedSimpArgs false

def tail3 (h n : Nat) (t : Str) (f : Mark) : List PAct := [pSettle, ⟨1, 40 * h, headBytes ⟨n, markOf t, f⟩⟩, pSettle]

/-- What is known of the swap: whatever acts were done. -/
structure SwOk (S : Sw) (wr : Wr) (t0 : Str) (f0 : Mark) (ok : Str → Mark → Prop) : Prop where
  sized : Sized S
  half : wr.half ≤ 1
  num : wr.number < 18446744073709551616
  safe : wr.known = true → ok t0 f0 ∧ Safe S wr.half wr.number t0 f0 ok

theorem SwOk.mono {S wr t0 f0} {ok ok' : Str → Mark → Prop} (a : SwOk S wr t0 f0 ok) (e : ∀ t f, ok t f → ok' t f) : SwOk S wr t0 f0 ok' :=
  ⟨a.sized, a.half, a.num, fun hk => ⟨e _ _ (a.safe hk).1, (a.safe hk).2.mono e⟩⟩

/-- How far a sync has come: the acts R are left. -/
structure PhA (S : Sw) (wr : Wr) (t : Str) (f : Mark) (R pre : List PAct) : Prop where
  acts : R = pre ++ pSettle :: (bodyActs (1 - wr.half) t ++ tail3 (1 - wr.half) wr.next t f)
  each : ∀ p ∈ pre, p = pSettle ∨ p = pWrite (40 * (1 - wr.half)) [] ∨ (wr.known = false ∧ p = pWrite (40 * wr.half) [])
  blot : pWrite (40 * (1 - wr.half)) [] ∈ pre ∨ lastOf (S (40 * (1 - wr.half))) = blank
  other : wr.known = false → pWrite (40 * wr.half) [] ∈ pre ∨ lastOf (S (40 * wr.half)) = blank
structure PhB (S : Sw) (wr : Wr) (t : Str) (f : Mark) (R : List PAct) (k : Nat) : Prop where
  acts : R = (bodyActs (1 - wr.half) t).drop k ++ tail3 (1 - wr.half) wr.next t f
  le : k ≤ nPieces t
  blot : S (40 * (1 - wr.half)) = [blank]
  other : wr.known = false → S (40 * wr.half) = [blank]
  done : ∀ j, j < k → lastOf (S (40 * (1 - wr.half) + 1 + j)) = pieceAt t j
structure PhC (S : Sw) (wr : Wr) (t : Str) (f : Mark) (R : List PAct) : Prop where
  acts : R = [⟨1, 40 * (1 - wr.half), headBytes ⟨wr.next, markOf t, f⟩⟩, pSettle]
  blot : S (40 * (1 - wr.half)) = [blank]
  other : wr.known = false → S (40 * wr.half) = [blank]
  written : Written S (1 - wr.half) t
structure PhD (S : Sw) (wr : Wr) (t : Str) (f : Mark) (R : List PAct) : Prop where
  acts : R = [pSettle]
  head : lastOf (S (40 * (1 - wr.half))) = headBytes ⟨wr.next, markOf t, f⟩
  other : wr.known = false → S (40 * wr.half) = [blank]
  written : Written S (1 - wr.half) t

def Prog (S : Sw) (wr : Wr) (t : Str) (f : Mark) (R : List PAct) : Prop := (∃ pre, PhA S wr t f R pre) ∨ (∃ k, PhB S wr t f R k) ∨ PhC S wr t f R ∨ PhD S wr t f R

theorem bodyActs_length (h : Nat) (t : Str) : (bodyActs h t).length = nPieces t := by simp [bodyActs, nPieces]
theorem bodyActs_get (h : Nat) (t : Str) {k : Nat} (hk : k < nPieces t) : (bodyActs h t)[k]? = some (pWrite (40 * h + 1 + k) ((t.drop (64 * k)).take 64)) := by
  unfold bodyActs
  rw [List.getElem?_map, List.getElem?_range (by unfold nPieces at hk; exact hk)]
  rfl

theorem acts_eq (wr : Wr) (t : Str) (f : Mark) : wr.acts t f = ((if wr.unsettled then [pSettle] else []) ++ pWrite (40 * (1 - wr.half)) [] :: (if wr.known then [] else [pWrite (40 * wr.half) []])) ++ pSettle :: (bodyActs (1 - wr.half) t ++ tail3 (1 - wr.half) wr.next t f) := by
  simp only [Wr.acts, tail3, Wr.head, List.append_assoc, List.cons_append, List.nil_append]

theorem prog_start (S : Sw) (wr : Wr) (t : Str) (f : Mark) : Prog S wr t f (wr.acts t f) := by
  refine .inl ⟨_, acts_eq wr t f, fun p hp => ?_, .inl (by simp), fun hk => .inl (by simp [hk])⟩
  simp only [List.mem_append, List.mem_cons] at hp
  rcases hp with hp | hp | hp
  · split at hp
    · simp at hp; exact .inl hp
    · cases hp
  · exact .inr (.inl hp)
  · cases hk : wr.known with
    | true => rw [hk] at hp; simp at hp
    | false => rw [hk] at hp; simp at hp; exact .inr (.inr ⟨rfl, hp⟩)

theorem acts_ne (wr : Wr) (t : Str) (f : Mark) : wr.acts t f ≠ [] := by rw [acts_eq]; simp

theorem acts_length (wr : Wr) {t : Str} (f : Mark) (h : t.length ≤ 2460) : (wr.acts t f).length ≤ 46 := by
  rw [acts_eq]
  simp only [List.length_append, List.length_cons, bodyActs_length, tail3, List.length_nil]
  have : nPieces t ≤ 39 := by unfold nPieces; omega
  have h1 : (if wr.unsettled = true then [pSettle] else []).length ≤ 1 := by split <;> simp
  have h2 : (if wr.known = true then [] else [pWrite (40 * wr.half) []]).length ≤ 1 := by split <;> simp
  omega

/-- An act of a sync. -/
def ActOk (a : PAct) : Prop := a = pSettle ∨ (a.kind = 1 ∧ a.at_ < 400 ∧ a.data.length = 64)

theorem act_settle (S : Sw) : S.act pSettle = S.sync := by simp [Sw.act]
theorem act_write (S : Sw) (p : Nat) (l : Str) : S.act (pWrite p l) = S.write p (pad l) := by simp [Sw.act, pWrite]

theorem sync_at (S : Sw) (i : Nat) : S.sync i = [lastOf (S i)] := rfl
theorem lastOf_write_at (S : Sw) (a : Nat) (x : Str) : lastOf (S.write a x a) = x := by rw [Sw.write_at, lastOf_snoc]

theorem SwOk.sync {S wr t0 f0 ok} (a : SwOk S wr t0 f0 ok) : SwOk S.sync wr t0 f0 ok := ⟨a.sized.sync, a.half, a.num, fun hk => ⟨(a.safe hk).1, (a.safe hk).2.sync⟩⟩

theorem SwOk.other {S wr t0 f0 ok} (a : SwOk S wr t0 f0 ok) {p : Nat} {x : Str} (hx : x.length = 64) (h : wr.known = true → Safe (S.write p x) wr.half wr.number t0 f0 ok) : SwOk (S.write p x) wr t0 f0 ok :=
  ⟨a.sized.write hx, a.half, a.num, fun hk => ⟨(a.safe hk).1, h hk⟩⟩

theorem fits_next (wr : Wr) : wr.next < 18446744073709551616 := Nat.mod_lt _ (by decide)

/-- An act of a sync is done. -/
theorem prog_step {S : Sw} {wr : Wr} {t0 t : Str} {f0 f : Mark} {ok : Str → Mark → Prop} {a : PAct} {R : List PAct} (h : SwOk S wr t0 f0 ok) (ht : IsText t) (hf : f.Fits) (hok : ok t f) (hp : Prog S wr t f (a :: R)) :
    ActOk a ∧ SwOk (S.act a) wr t0 f0 ok ∧ (R ≠ [] → Prog (S.act a) wr t f R) ∧ (R = [] → a = pSettle ∧ SwOk (S.act a) wr.written t f (fun t' f' => t' = t ∧ f' = f)) := by
  have hh := h.half
  have h39 : nPieces t ≤ 39 := by obtain ⟨ls, hls, rfl⟩ := ht; have := hls.length; unfold nPieces; omega
  rcases hp with ⟨pre, A⟩ | ⟨k, B⟩ | C | D
  · cases pre with
    | nil =>
      have e := A.acts
      simp only [List.nil_append, List.cons.injEq] at e
      obtain ⟨rfl, rfl⟩ := e
      rw [act_settle]
      have hb : lastOf (S (40 * (1 - wr.half))) = blank := A.blot.resolve_left (by simp)
      refine ⟨.inl rfl, h.sync, fun _ => .inr (.inl ⟨0, rfl, Nat.zero_le _, by rw [sync_at, hb], fun hk => by rw [sync_at, (A.other hk).resolve_left (by simp)], fun j hj => by omega⟩), fun hh => by simp [tail3] at hh⟩
    | cons p pre =>
      have e := A.acts
      simp only [List.cons_append, List.cons.injEq] at e
      obtain ⟨rfl, rfl⟩ := e
      have hpre := fun q hq => A.each q (List.mem_cons_of_mem _ hq)
      have hne : pre ++ pSettle :: (bodyActs (1 - wr.half) t ++ tail3 (1 - wr.half) wr.next t f) ≠ [] := by simp
      rcases A.each a (by simp) with rfl | rfl | ⟨hkn, rfl⟩
      · rw [act_settle]
        refine ⟨.inl rfl, h.sync, fun _ => .inl ⟨pre, rfl, hpre, ?_, fun hk => ?_⟩, fun hh => absurd hh hne⟩
        · rcases A.blot with hb | hb
          · rcases List.mem_cons.1 hb with hb | hb
            · simp [pWrite] at hb
            · exact .inl hb
          · exact .inr (by rw [sync_at, lastOf_one, hb])
        · rcases A.other hk with hb | hb
          · rcases List.mem_cons.1 hb with hb | hb
            · simp [pWrite] at hb
            · exact .inl hb
          · exact .inr (by rw [sync_at, lastOf_one, hb])
      · rw [act_write]
        refine ⟨.inr ⟨rfl, by simp only [pWrite]; omega, blank_length⟩, h.other blank_length (fun hk => (h.safe hk).2.blot (h.safe hk).1), fun _ => .inl ⟨pre, rfl, hpre, .inr (lastOf_write_at _ _ _), fun hk => ?_⟩, fun hh => absurd hh hne⟩
        rcases A.other hk with hb | hb
        · rcases List.mem_cons.1 hb with hb | hb
          · simp only [pWrite, PAct.mk.injEq] at hb; omega
          · exact .inl hb
        · exact .inr (by rw [Sw.write_ne _ _ (by omega), hb])
      · rw [act_write]
        refine ⟨.inr ⟨rfl, by simp only [pWrite]; omega, blank_length⟩, h.other blank_length (fun hk => (by rw [hkn] at hk; cases hk)), fun _ => .inl ⟨pre, rfl, hpre, ?_, fun _ => .inr (lastOf_write_at _ _ _)⟩, fun hh => absurd hh hne⟩
        rcases A.blot with hb | hb
        · rcases List.mem_cons.1 hb with hb | hb
          · simp only [pWrite, PAct.mk.injEq] at hb; omega
          · exact .inl hb
        · exact .inr (by rw [Sw.write_ne _ _ (by omega), hb])
  · have e := B.acts
    rcases Nat.lt_or_ge k (nPieces t) with hk | hk
    · have hl : k < (bodyActs (1 - wr.half) t).length := by rw [bodyActs_length]; exact hk
      have hg := bodyActs_get (1 - wr.half) t hk
      rw [List.getElem?_eq_getElem hl] at hg
      rw [List.drop_eq_getElem_cons hl, Option.some.inj hg] at e
      simp only [List.cons_append, List.cons.injEq] at e
      obtain ⟨rfl, rfl⟩ := e
      rw [act_write]
      have hpl : (pad ((t.drop (64 * k)).take 64)).length = 64 := pieceAt_length t k
      refine ⟨.inr ⟨rfl, by simp only [pWrite]; omega, hpl⟩, h.other hpl (fun hkn => ?_), fun _ => .inr (.inl ⟨k + 1, rfl, hk, ?_, fun hkn => ?_, fun j hj => ?_⟩), fun hh => by simp [tail3] at hh⟩
      · exact (h.safe hkn).2.body (by rw [B.blot]; intro x hx; simp only [List.mem_cons, List.not_mem_nil, or_false] at hx; rw [hx]; exact readHead_blank) (by omega) hpl
      · rw [Sw.write_ne _ _ (by omega)]; exact B.blot
      · rw [Sw.write_ne _ _ (by omega)]; exact B.other hkn
      · by_cases ej : j = k
        · subst ej; rw [lastOf_write_at]; rfl
        · rw [Sw.write_ne _ _ (by omega)]; exact B.done j (by omega)
    · have hl : (bodyActs (1 - wr.half) t).drop k = [] := List.drop_eq_nil_of_le (by rw [bodyActs_length]; exact hk)
      rw [hl] at e
      simp only [List.nil_append, tail3, List.cons.injEq] at e
      obtain ⟨rfl, rfl⟩ := e
      rw [act_settle]
      refine ⟨.inl rfl, h.sync, fun _ => .inr (.inr (.inl ⟨rfl, by rw [sync_at, B.blot, lastOf_one], fun hkn => by rw [sync_at, B.other hkn, lastOf_one], fun j hj => ⟨_, rfl⟩, fun j hj => by rw [sync_at, B.done j (by omega)]⟩)), fun hh => by simp at hh⟩
  · have e := C.acts
    simp only [List.cons.injEq] at e
    obtain ⟨rfl, rfl⟩ := e
    have ea : S.act ⟨1, 40 * (1 - wr.half), headBytes ⟨wr.next, markOf t, f⟩⟩ = S.write (40 * (1 - wr.half)) (headBytes ⟨wr.next, markOf t, f⟩) := by simp [Sw.act]
    rw [ea]
    refine ⟨.inr ⟨rfl, by simp only; omega, headBytes_length _⟩, h.other (headBytes_length _) (fun hkn => (h.safe hkn).2.headed C.blot C.written ht hf hok), fun _ => .inr (.inr (.inr ⟨rfl, lastOf_write_at _ _ _, fun hkn => ?_, fun j hj => ?_, fun j hj => ?_⟩)), fun hh => by simp at hh⟩
    · rw [Sw.write_ne _ _ (by omega)]; exact C.other hkn
    · rw [Sw.write_ne _ _ (by omega)]; exact C.written.body j hj
    · rw [Sw.write_ne _ _ (by omega)]; exact C.written.pieces j hj
  · have e := D.acts
    simp only [List.cons.injEq] at e
    obtain ⟨rfl, rfl⟩ := e
    rw [act_settle]
    refine ⟨.inl rfl, h.sync, fun hh => absurd rfl hh, fun _ => ⟨rfl, h.sized.sync, ?_, fits_next wr, fun _ => ⟨⟨rfl, rfl⟩, ?_⟩⟩⟩
    · show 1 - wr.half ≤ 1; omega
    · show Safe S.sync (1 - wr.half) wr.next t f _
      refine safe_done h.sized (by omega) (fits_next wr) ht hf D.written D.head ?_
      rw [show 1 - (1 - wr.half) = wr.half by omega]
      cases hk : wr.known with
      | true =>
        left
        refine ⟨wr.number, h.num, rfl, fun img hl => ?_⟩
        obtain ⟨hd, h1, _, r⟩ := (h.safe hk).2.reads img hl
        exact ⟨hd, h1, r.head⟩
      | false => exact .inr (by rw [D.other hk, lastOf_one])

/-- An act that a sync tells next. -/
theorem prog_next {S wr t f R} (hp : Prog S wr t f R) : R ≠ [] := by
  rcases hp with ⟨pre, A⟩ | ⟨k, B⟩ | C | D
  · rw [A.acts]; simp
  · rw [B.acts]; simp [tail3]
  · rw [C.acts]; simp
  · rw [D.acts]; simp

end Go.Proofs.YtdpfohgkikjeaaaGreat
/- The statements' swap, file and desk, in plain mathematics. Nothing of the program. -/
namespace Go.Proofs.YtdpfohgkikjeaaaGreat
set_option linter.unusedVariables false
set_option linter.unusedSimpArgs false

/-! ### Raw numbers -/
/-- Which of n things the raw number c speaks of. -/
def pickN (c : Int) (n : Nat) : Nat := (if c < 0 then -(c + 1) else c).toNat % n
theorem pickN_lt (c : Int) {n : Nat} (h : 0 < n) : pickN c n < n := Nat.mod_lt _ h
/-- A raw number fits. -/
def RawOk (c : Int) : Prop := -9223372036854775808 ≤ c ∧ c < 9223372036854775808

def lineByte (c : Int) (i : Nat) : UInt8 := if pickN (c.tdiv 41 + 7 * (i : Int)) 256 = 10 then 120 else UInt8.ofNat (pickN (c.tdiv 41 + 7 * (i : Int)) 256)
def lineN (c : Int) : Str := (List.range (pickN c 41)).map (lineByte c)
theorem lineN_ok (c : Int) : LineOk (lineN c) := by
  constructor
  · have := pickN_lt c (n := 41) (by decide)
    simp only [lineN, List.length_map, List.length_range]; omega
  · intro h
    simp only [lineN, List.mem_map, List.mem_range] at h
    obtain ⟨i, _, h⟩ := h
    unfold lineByte at h
    have hp := pickN_lt (c.tdiv 41 + 7 * (i : Int)) (n := 256) (by decide)
    split at h
    · exact absurd h (by decide)
    · rename_i hne
      have := congrArg UInt8.toNat h
      simp at this
      omega
def linesN (raw : List Int) : List Str := (raw.take 60).map lineN
theorem linesN_ok (raw : List Int) : TextOk (linesN raw) := by
  refine ⟨by simp only [linesN, List.length_map, List.length_take]; omega, fun l hl => ?_⟩
  simp only [linesN, List.mem_map] at hl
  obtain ⟨c, _, rfl⟩ := hl
  exact lineN_ok c

/-! ### The disk -/
structure DiskS where
  sw : List (List Str)
  file : Str
  before : Str
  renamed : Bool
  safe : Nat
  new : Str
  newSafe : Nat

namespace DiskS
def S (d : DiskS) : Sw := fun i => d.sw.getD i [[]]
def act (d : DiskS) (a : PAct) : DiskS :=
  if a.kind = 1 then { d with sw := d.sw.set a.at_ (d.sw.getD a.at_ [] ++ [a.data]) }
  else if a.kind = 2 then { d with sw := d.sw.map fun l => [lastOf l] }
  else if a.kind = 3 then { d with new := [], newSafe := 0 }
  else if a.kind = 4 then { d with new := d.new ++ a.data }
  else if a.kind = 5 then { d with newSafe := d.new.length }
  else if a.kind = 6 then { d with before := if d.renamed then d.before else d.file, renamed := true, file := d.new, safe := d.newSafe }
  else if a.kind = 7 then { d with renamed := false }
  else d
def of (secs : List Str) (file : Str) : DiskS := ⟨secs.map fun s => [s], file, [], false, 0, [], 0⟩
def now (d : DiskS) : List Str := d.sw.map lastOf

/-- What may be left of the sectors. -/
def Leaves (d : DiskS) (secs : List Str) : Prop := secs.length = d.sw.length ∧ ∀ i, i < d.sw.length → secs.getD i [] ∈ d.sw.getD i [[]]
/-- What may be left of the file. -/
def LeavesFile (d : DiskS) (f : Str) : Prop := f = d.file ∨ (d.renamed = true ∧ (f = d.before ∨ ∃ n, d.safe ≤ n ∧ n ≤ d.file.length ∧ f = d.file.take n))

theorem S_of (secs : List Str) (file : Str) : (of secs file).S = fun i => [(secs[i]?).getD []] := by
  funext i
  simp only [S, of, List.getD_eq_getElem?_getD, List.getElem?_map]
  cases secs[i]? <;> rfl

theorem S_write (d : DiskS) {a : Nat} (h : a < d.sw.length) (x : Str) : S { d with sw := d.sw.set a (d.sw.getD a [] ++ [x]) } = d.S.write a x := by
  funext i
  unfold S Sw.write
  simp only [List.getD_eq_getElem?_getD, List.getElem?_set]
  by_cases e : a = i
  · subst e; simp [h]
  · simp [e, Ne.symm e]

theorem S_sync (d : DiskS) : S { d with sw := d.sw.map fun l => [lastOf l] } = d.S.sync := by
  funext i
  unfold S Sw.sync
  simp only [List.getD_eq_getElem?_getD, List.getElem?_map]
  cases d.sw[i]? <;> rfl

/-- How long all of a disk may be. -/
structure Lens (d : DiskS) (N L : Nat) : Prop where
  sw : d.sw.length = 400
  rows : ∀ r ∈ d.sw, r.length ≤ N
  some : ∀ r ∈ d.sw, r ≠ []
  size : ∀ r ∈ d.sw, ∀ s ∈ r, s.length = 64
  file : d.file.length ≤ L
  before : d.before.length ≤ L
  new : d.new.length ≤ L
  safe : d.renamed = true → d.safe ≤ d.file.length
  newSafe : d.newSafe ≤ d.new.length
end DiskS

theorem Sized.of_lens {d : DiskS} {N L : Nat} (h : d.Lens N L) : Sized d.S := by
  have hg : ∀ i, i < 400 → d.S i ∈ d.sw := fun i hi => by
    have h1 : i < d.sw.length := by rw [h.sw]; exact hi
    show d.sw.getD i [[]] ∈ d.sw
    simp [List.getD_eq_getElem?_getD, h1]
  exact ⟨fun i hi => h.some _ (hg i hi), fun i hi => h.size _ (hg i hi)⟩

theorem lastOf_mem' {r : List Str} (h : r ≠ []) : lastOf r ∈ r := lastOf_mem h

theorem DiskS.Lens.mono {d : DiskS} {N M L : Nat} (h : d.Lens N L) (hm : N ≤ M) : d.Lens M L := ⟨h.sw, fun r hr => Nat.le_trans (h.rows r hr) hm, h.some, h.size, h.file, h.before, h.new, h.safe, h.newSafe⟩

/-- An act that may be done. -/
def RightA (a : PAct) : Prop := (a.kind = 1 ∧ a.at_ < 400 ∧ a.data.length = 64) ∨ (a.kind = 4 ∧ a.at_ = 0) ∨ ((a.kind = 2 ∨ a.kind = 3 ∨ a.kind = 5 ∨ a.kind = 6 ∨ a.kind = 7) ∧ a.at_ = 0 ∧ a.data = [])

theorem ActOk.right {a : PAct} (h : ActOk a) : RightA a := by
  rcases h with rfl | ⟨h1, h2, h3⟩
  · exact .inr (.inr ⟨.inl rfl, rfl, rfl⟩)
  · exact .inl ⟨h1, h2, h3⟩

theorem DiskS.Lens.act {d : DiskS} {N L : Nat} (h : d.Lens N L) {a : PAct} (hr : RightA a) (hn : a.kind = 4 → d.new.length + a.data.length ≤ L) (hs : 1 ≤ N) : (d.act a).Lens (N + 1) L := by
  have hm := h.mono (Nat.le_succ N)
  unfold DiskS.act
  rcases hr with ⟨hk, h1, h2⟩ | ⟨hk, h1⟩ | ⟨hk, h1, h2⟩
  · rw [if_pos hk]
    have hlt : a.at_ < d.sw.length := by rw [h.sw]; exact h1
    have hmem : d.sw.getD a.at_ [] ∈ d.sw := by simp [List.getD_eq_getElem?_getD, hlt]
    have hset : ∀ r, r ∈ d.sw.set a.at_ (d.sw.getD a.at_ [] ++ [a.data]) → r ∈ d.sw ∨ r = d.sw.getD a.at_ [] ++ [a.data] := fun r hr => List.mem_or_eq_of_mem_set hr
    refine ⟨by rw [List.length_set]; exact h.sw, fun r hr => ?_, fun r hr => ?_, fun r hr s hs => ?_, hm.file, hm.before, hm.new, hm.safe, hm.newSafe⟩
    · rcases hset r hr with hr | rfl
      · exact hm.rows r hr
      · have := h.rows _ hmem; simp only [List.length_append, List.length_cons, List.length_nil]; omega
    · rcases hset r hr with hr | rfl
      · exact h.some r hr
      · simp
    · rcases hset r hr with hr | rfl
      · exact h.size r hr s hs
      · rcases List.mem_append.1 hs with hs | hs
        · exact h.size _ hmem s hs
        · simp at hs; rw [hs]; exact h2
  · simp only [hk]
    refine ⟨hm.sw, hm.rows, hm.some, hm.size, hm.file, hm.before, ?_, hm.safe, ?_⟩
    · have := hn hk; simpa using this
    · have := h.newSafe; show d.newSafe ≤ (d.new ++ a.data).length; simp only [List.length_append]; omega
  · rcases hk with hk | hk | hk | hk | hk
    · simp only [hk]
      refine ⟨by simpa using h.sw, fun r hr => ?_, fun r hr => ?_, fun r hr s hs => ?_, hm.file, hm.before, hm.new, hm.safe, hm.newSafe⟩
      · obtain ⟨l, _, rfl⟩ := List.mem_map.1 (show r ∈ d.sw.map (fun l => [lastOf l]) from hr); simp
      · obtain ⟨l, _, rfl⟩ := List.mem_map.1 (show r ∈ d.sw.map (fun l => [lastOf l]) from hr); simp
      · obtain ⟨l, hl, rfl⟩ := List.mem_map.1 (show r ∈ d.sw.map (fun l => [lastOf l]) from hr)
        simp only [List.mem_cons, List.not_mem_nil, or_false] at hs
        rw [hs]; exact h.size l hl _ (lastOf_mem (h.some l hl))
    · simp only [hk]; exact ⟨hm.sw, hm.rows, hm.some, hm.size, hm.file, hm.before, Nat.zero_le _, hm.safe, Nat.le_refl _⟩
    · simp only [hk]; exact ⟨hm.sw, hm.rows, hm.some, hm.size, hm.file, hm.before, hm.new, hm.safe, Nat.le_refl _⟩
    · simp only [hk]; exact ⟨hm.sw, hm.rows, hm.some, hm.size, hm.new, by show (if d.renamed then d.before else d.file).length ≤ L; split; exact hm.before; exact hm.file, hm.new, fun _ => hm.newSafe, hm.newSafe⟩
    · simp only [hk]; exact ⟨hm.sw, hm.rows, hm.some, hm.size, hm.file, hm.before, hm.new, fun h => (by cases h), hm.newSafe⟩

theorem DiskS.act_sw {d : DiskS} {a : PAct} (hr : RightA a) (h : d.sw.length = 400) : (d.act a).S = d.S.act a := by
  unfold DiskS.act Sw.act
  rcases hr with ⟨hk, h1, h2⟩ | ⟨hk, h1⟩ | ⟨hk, h1, h2⟩
  · rw [if_pos hk, if_pos hk]; exact DiskS.S_write d (by omega) _
  · simp only [hk]; rfl
  · rcases hk with hk | hk | hk | hk | hk
    · simp only [hk]; exact DiskS.S_sync d
    all_goals (simp only [hk]; rfl)

/-! ### The file -/
def FileOk (d : DiskS) (files : List Str) : Prop := d.file ∈ files ∧ (d.renamed = true → d.before ∈ files ∧ d.safe = d.file.length)

theorem FileOk.leaves {d : DiskS} {files : List Str} (h : FileOk d files) {f : Str} (hf : d.LeavesFile f) : f ∈ files := by
  rcases hf with rfl | ⟨hr, rfl | ⟨n, h1, h2, rfl⟩⟩
  · exact h.1
  · exact (h.2 hr).1
  · rw [(h.2 hr).2] at h1
    rw [List.take_of_length_le h1]
    exact h.1

theorem FileOk.more {d : DiskS} {files : List Str} (h : FileOk d files) (x : Str) : FileOk d (files ++ [x]) :=
  ⟨List.mem_append.2 (.inl h.1), fun hr => ⟨List.mem_append.2 (.inl (h.2 hr).1), (h.2 hr).2⟩⟩

/-- How far a Save has come: the acts R are left. -/
def SaveProg (k : DiskS) (t : Str) (R : List PAct) : Prop :=
  R = saveActs t ∨ (k.new = [] ∧ t ≠ [] ∧ R = [⟨4, 0, t⟩, ⟨5, 0, []⟩, ⟨6, 0, []⟩, ⟨7, 0, []⟩]) ∨ (k.new = t ∧ R = [⟨5, 0, []⟩, ⟨6, 0, []⟩, ⟨7, 0, []⟩]) ∨
  (k.new = t ∧ k.newSafe = t.length ∧ R = [⟨6, 0, []⟩, ⟨7, 0, []⟩]) ∨ (k.file = t ∧ R = [⟨7, 0, []⟩])

/-- An act of a Save is done. -/
theorem save_step {k : DiskS} {t : Str} {files : List Str} {a : PAct} {R : List PAct} (hf : FileOk k files) (ht : t ∈ files) (hp : SaveProg k t (a :: R)) :
    RightA a ∧ FileOk (k.act a) files ∧ (a.kind = 4 → k.new.length + a.data.length = t.length) ∧ (R ≠ [] → SaveProg (k.act a) t R) ∧ (R = [] → FileOk (k.act a) [t]) ∧ (k.act a).sw = k.sw := by
  rcases hp with h | ⟨hn, hne, h⟩ | ⟨hn, h⟩ | ⟨hn, hs, h⟩ | ⟨hff, h⟩
  · unfold saveActs at h
    obtain ⟨rfl, h2⟩ := List.cons_eq_cons.1 h
    refine ⟨.inr (.inr ⟨by decide, rfl, rfl⟩), hf, fun h => absurd h (by decide), fun _ => ?_, fun e => by subst e; split at h2 <;> simp at h2, rfl⟩
    by_cases e : t = []
    · subst e; rw [if_pos rfl] at h2; exact .inr (.inr (.inl ⟨rfl, h2⟩))
    · rw [if_neg e] at h2; exact .inr (.inl ⟨rfl, e, h2⟩)
  · obtain ⟨rfl, rfl⟩ := List.cons_eq_cons.1 h
    exact ⟨.inr (.inl ⟨rfl, rfl⟩), hf, fun _ => by simp [hn], fun _ => .inr (.inr (.inl ⟨by simp [DiskS.act, hn], rfl⟩)), (fun e => by cases e), rfl⟩
  · obtain ⟨rfl, rfl⟩ := List.cons_eq_cons.1 h
    exact ⟨.inr (.inr ⟨by decide, rfl, rfl⟩), hf, fun h => absurd h (by decide), fun _ => .inr (.inr (.inr (.inl ⟨hn, by simp [DiskS.act, hn], rfl⟩))), (fun e => by cases e), rfl⟩
  · obtain ⟨rfl, rfl⟩ := List.cons_eq_cons.1 h
    refine ⟨.inr (.inr ⟨by decide, rfl, rfl⟩), ⟨?_, fun _ => ⟨?_, ?_⟩⟩, fun h => absurd h (by decide), fun _ => .inr (.inr (.inr (.inr ⟨hn, rfl⟩))), (fun e => by cases e), rfl⟩
    · show k.new ∈ files; rw [hn]; exact ht
    · show (if k.renamed then k.before else k.file) ∈ files
      split
      · rename_i hr; exact (hf.2 hr).1
      · exact hf.1
    · show k.newSafe = k.new.length; rw [hs, hn]
  · obtain ⟨rfl, rfl⟩ := List.cons_eq_cons.1 h
    refine ⟨.inr (.inr ⟨by decide, rfl, rfl⟩), ⟨hf.1, fun e => (by cases e)⟩, fun h => absurd h (by decide), fun e => absurd rfl e, fun _ => ⟨?_, fun e => by cases e⟩, rfl⟩
    show k.file ∈ [t]; rw [hff]; simp

/-- Acts of a sync leave the file alone. -/
theorem act_file {k : DiskS} {a : PAct} (h : ActOk a) : (k.act a).file = k.file ∧ (k.act a).before = k.before ∧ (k.act a).renamed = k.renamed ∧ (k.act a).safe = k.safe ∧ (k.act a).new = k.new ∧ (k.act a).newSafe = k.newSafe := by
  rcases h with rfl | ⟨h1, _, _⟩
  · exact ⟨rfl, rfl, rfl, rfl, rfl, rfl⟩
  · unfold DiskS.act; rw [if_pos h1]; exact ⟨rfl, rfl, rfl, rfl, rfl, rfl⟩
end Go.Proofs.YtdpfohgkikjeaaaGreat
