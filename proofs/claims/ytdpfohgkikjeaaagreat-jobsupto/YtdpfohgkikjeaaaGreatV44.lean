/- Part 44 of the proof: see its parts. -/
import Derived.ChangeSame
import Derived.ChangeSlices
import Derived.Deep.Strs
import Derived.Deep.Slices
import Derived.RowKit3
import Derived.Test.YtdpfohgkikjeaaaGreatV25
import Derived.Test.YtdpfohgkikjeaaaGreatV28
import Derived.Test.YtdpfohgkikjeaaaGreatV43
/- The statements' own: run. -/
namespace Go.Proofs.YtdpfohgkikjeaaaGreat
open Go.RowKit
set_option linter.unusedVariables false
set_option linter.unusedSimpArgs false

theorem world_new {w : World} {G : Nat} (hn : w.heap[G]? = some (.cells #[.slice none 0 0, .slice none 0 0] worldT (0, 0))) : WorldR w G [] 0 [G] :=
  ⟨[], .slice none 0 0, .slice none 0 0, fun _ => 0, ⟨hn, ⟨rfl, .inl ⟨rfl, rfl⟩⟩, ⟨rfl, .inl ⟨rfl, rfl⟩⟩, fun i t h => by simp at h, fun i t h => by simp at h, rfl, by simp [fpv_nil], by simp [fpv_nil], fun i t h => by simp at h, fun i t h => by simp at h⟩, Nat.le_refl _, by simp [fpv_nil]⟩

/-- What is told of a world on the way: its twins l, behind n steps. -/
structure OnWay (w1 wr : World) (G : Nat) (l : TwL) (n L : Nat) : Prop where
  wto : WorldTo w1 wr G [G] l (12 + n)
  all : AllOk l (7000 + 501 * n) L

theorem OnWay.mono {w1 wr : World} {G : Nat} {l : TwL} {n m L : Nat} (h : OnWay w1 wr G l n L) (hm : n ≤ m) : OnWay w1 wr G l m L := ⟨h.wto.mono (by omega), h.all.mono (by omega)⟩

/-- A step on the way. -/
theorem OnWay.play {w1 wr : World} {G : Nat} {l : TwL} {n L : Nat} (h : OnWay w1 wr G l n L) (hn : n ≤ 1000000000) (hL : L ≤ 1000000000000) (hL2 : 2460 ≤ L) (hll : l.length ≤ 1000000000) (m : OpS) (hm : m.Ok L) (r : Value) {B : Nat} (hraw : IntsAt wr B r m.raw) (hG : B ≤ G) (hB : B ≤ w1.heap.size) :
    Calls Tryz.prog 33 #[ptrV G, .agg (opCells m.kind m.on m.a m.s r)] wr fun e w' => e = .returned (.bool true) ∧ ∃ l', OnWay w1 w' G l' (n + 1) L ∧ l'.length ≤ l.length + 1 ∧ (m.kind ≠ 1 → l'.length = l.length) := by
  obtain ⟨⟨⟨fp1, hR, hx⟩, hk⟩, hall⟩ := h
  refine (plays_step hR hall (by omega) (by omega) (by omega) hL hL2 hll m hm r hraw (fun x hx' => ?_)).mono ?_
  · rcases hx x hx' with h1 | h1
    · rw [List.mem_singleton.1 h1]; exact hG
    · omega
  · rintro e w' ⟨h1, l', h2, h3, h4, h5, _⟩
    exact ⟨h1, l', ⟨(WorldTo.step hx hk h2).mono (by omega), h3.mono (by omega)⟩, h4, h5⟩

theorem OnWay.holds {w1 wr : World} {G : Nat} {l : TwL} {n L : Nat} (h : OnWay w1 wr G l n L) (hn : n ≤ 1000000000) : Calls Tryz.prog 34 #[ptrV G] wr fun e w' => e = .returned (.bool true) ∧ w' = wr := by
  obtain ⟨⟨⟨fp1, hR, hx⟩, hk⟩, hall⟩ := h
  exact holds_w hR (by omega)

theorem ok_lit {k on a : Int} {L : Nat} (hk : RawOk k) (hon : RawOk on) (ha : RawOk a) : OpS.Ok ⟨k, on, a, [], []⟩ L := ⟨hk, hon, ha, Nat.zero_le _⟩

set_option maxRecDepth 100000 in
set_option maxHeartbeats 16000000 in
theorem run_w {w : World} {B : Nat} {v : Value} {ops : List OpS} {L : Nat} (hs : OpsAt w B L v ops) (hfew : ops.length ≤ 1048576) (hL2 : 2460 ≤ L) (hL : L ≤ 1000000000000) (last : Int) (hlast : 8 ≤ last) :
    Calls Tryz.prog 11 #[v, .int .i64 last] w fun e w' => e = .returned (.bool true) ∧ Kept no w w' := by
  obtain ⟨pv, cv, hv⟩ : ∃ pv cv, v = .slice pv ops.length cv := by
    rcases hs.at_ with ⟨a, c, h1, h2⟩ | ⟨b, o, c, h1, _⟩
    · subst h2; exact ⟨_, _, h1⟩
    · exact ⟨_, _, h1⟩
  subst hv
  have hBw := hs.low
  have hget : ∀ wr, Kept (fun x => w.heap.size ≤ x) w wr → ∀ (i : Nat) (m : OpS), ops[i]? = some m → m.Ok L ∧ ∃ b2 o r, pv = some ⟨b2, o, none⟩ ∧ OpAt wr B b2 (o + i * 5) m r := fun wr hk i m hm => by
    have hsr := hs.kept hk (fun x hx => Nat.le_trans hBw hx)
    refine ⟨hs.fits m (List.mem_of_getElem? hm), ?_⟩
    rcases hsr.at_ with ⟨a, c, h1, h2⟩ | ⟨b2, o, c, h1, hb2, hc⟩
    · rw [h2] at hm; simp at hm
    · simp only [Value.slice.injEq] at h1
      obtain ⟨rfl, _, rfl⟩ := h1
      obtain ⟨r, hr⟩ := hc i m hm
      exact ⟨b2, o, r, rfl, hr⟩
  clear hs
  generalize hn : ops.length = n at *
  go_enter Tryz.func11, Tryz.ntmps11
  go_upto_region 2 with fail
  obtain ⟨hn1, hsz1, hk1⟩ := new1 w (Obj.cells #[.slice none 0 0, .slice none 0 0] worldT)
  have hW1 := world_new hn1
  have hGw : w.heap.size ≤ w.heap.size := Nat.le_refl _
  generalize hG : w.heap.size = G at hn1 hW1 hsz1 ⊢
  generalize w.alloc (Obj.cells #[.slice none 0 0, .slice none 0 0] worldT) = w1 at hn1 hsz1 hk1 hW1 ⊢
  have hkw : ∀ wr, Kept (fun x => x ∈ [G]) w1 wr → Kept (fun x => w.heap.size ≤ x) w wr := fun wr hk => (hk1.mono (T := fun x => w.heap.size ≤ x) (fun _ h _ => h.elim)).step' hk (fun x hx hlt => by have := List.mem_singleton.1 hx; show w.heap.size ≤ x; omega)
  have hBG : B ≤ G := by omega
  have hB1 : B ≤ w1.heap.size := by omega
  have hno : ∀ wr, Kept (fun x => x ∈ [G]) w1 wr → Kept no w wr := fun wr hk => hk1.step' hk (fun x hx hlt => by have := List.mem_singleton.1 hx; omega)
  clear hn1 hsz1 hGw
  go_wp2_with fail
  refine (known_w hW1 last hlast hL2 hL).mono ?_
  rintro e w2 ⟨rfl, l1, hT2, hall2, hl1⟩
  have hon2 : OnWay w1 w2 G l1 0 L := ⟨hT2, hall2⟩
  clear hT2 hall2 hW1
  go_wp2_with fail
  go_loopw [6, 7] (fun s6 s7 wr => ∃ (i : Nat) (l' : TwL), i ≤ n ∧ s6 = .bool true ∧ s7 = .int .i64 ((i : Nat) : Int) ∧ OnWay w1 wr G l' i L ∧ l'.length ≤ 1 + i) (fun _ s7 _ => n - (intOf s7).toNat)
  case atStart => exact ⟨0, l1, Nat.zero_le _, rfl, rfl, hon2, by omega⟩
  case round =>
    obtain ⟨i, l', hi, rfl, rfl, hon, hll⟩ := hrel
    clear hon2 hl1
    by_cases hlt : i < n
    · obtain ⟨m, hm⟩ : ∃ m, ops[i]? = some m := ⟨ops[i]'(by omega), by simp [hn, hlt]⟩
      obtain ⟨okm, b2, o, r, rfl, hop⟩ := hget wr (hkw wr hon.wto.kept) i m hm
      obtain ⟨c0, c1, c2, c3, c4, hraw⟩ := hop
      have hplay := hon.play (by omega) hL hL2 (by omega) m okm r hraw hBG hB1
      clear hget hm
      by_cases hk : m.kind ≤ last
      · go_wp2_with fail
        refine hplay.mono ?_
        rintro e w3 ⟨rfl, l3, hon3, hl3, _⟩
        clear hplay c0 c1 c2 c3 c4 hraw
        go_wp2_with fail
        refine (hon3.holds (by omega)).mono ?_
        rintro e w4 ⟨rfl, hw⟩
        rw [hw]
        clear hw
        go_wp2
        exact ⟨⟨i + 1, l3, by omega, rfl, by go_num, hon3, by omega⟩, by simp [intOf]; omega⟩
      · have hh := hon.holds (by omega)
        clear hplay
        go_wp2_with fail
        refine hh.mono ?_
        rintro e w4 ⟨rfl, hw⟩
        rw [hw]
        clear hw hh
        go_wp2
        exact ⟨⟨i + 1, l', by omega, rfl, by go_num, hon.mono (by omega), by omega⟩, by simp [intOf]; omega⟩
    · have hin : i = n := by omega
      clear hget
      have hn9 : n ≤ 1048576 := hfew
      have hon' : OnWay w1 wr G l' n L := by rw [← hin]; exact hon
      clear hon
      generalize wr = w5 at *
      have hlm : l'.length ≤ 1048577 := by omega
      clear hll hin
      obtain ⟨q, hq⟩ : ∃ q, l'.length = q := ⟨_, rfl⟩
      rw [hq] at hlm
      go_wp2_with fail
      go_loopw [6, 8] (fun s6 s8 wr => ∃ (j : Nat) (l3 : TwL), j ≤ q ∧ s6 = .bool true ∧ s8 = .int .i64 ((j : Nat) : Int) ∧ OnWay w1 wr G l3 (n + 64 * j) L ∧ l3.length = q) (fun _ s8 _ => q - (intOf s8).toNat)
      case atStart => exact ⟨0, l', Nat.zero_le _, rfl, rfl, hon', hq⟩
      case round =>
        obtain ⟨j, l3, hj, rfl, rfl, hon3, hl3⟩ := hrel
        clear hon'
        obtain ⟨fp3, hR3, hx3⟩ := hon3.wto.ex
        obtain ⟨hbl3, _, p3, c3, hc3⟩ := hR3.allLen
        rw [hl3] at hc3
        clear hR3 hx3
        have hjr : RawOk (j : Int) := ⟨by omega, by omega⟩
        by_cases hjq : j < q
        · have hpl := hon3.play (B := 0) (by omega) hL hL2 (by omega) ⟨6, (j : Int), 0, [], []⟩ (ok_lit ⟨by decide, by decide⟩ hjr ⟨by decide, by decide⟩) (.slice none 0 0) ints_none (Nat.zero_le _) (Nat.zero_le _)
          go_wp2_with fail
          refine hpl.mono ?_
          rintro e w6 ⟨rfl, l6, hon6, _, hl6⟩
          have hl6 : l6.length = q := (hl6 (by decide)).trans hl3
          clear hpl hc3 hon3 hbl3
          go_wp2_with fail
          go_loopw [6, 9] (fun s6 s9 wx => ∃ (k : Nat) (l7 : TwL), k ≤ 62 ∧ s6 = .bool true ∧ s9 = .int .i64 ((k : Int) - 1) ∧ OnWay w1 wx G l7 (n + 64 * j + 1 + k) L ∧ l7.length = q) (fun _ s9 _ => 62 - (intOf s9 + 1).toNat)
          case atStart => exact ⟨0, l6, by omega, rfl, rfl, hon6, hl6⟩
          case round =>
            obtain ⟨k, l7, hk, rfl, rfl, hon7, hl7⟩ := hrel
            clear hon6 hl6
            by_cases hk2 : k < 62
            · have hpl := hon7.play (B := 0) (by omega) hL hL2 (by omega) ⟨5, (j : Int), (k : Int) - 1, [], []⟩ (ok_lit ⟨by decide, by decide⟩ hjr ⟨by omega, by omega⟩) (.slice none 0 0) ints_none (Nat.zero_le _) (Nat.zero_le _)
              have hki : (k : Int) - 1 ≤ 60 := by omega
              go_wp2_with fail
              refine hpl.mono ?_
              rintro e w8 ⟨rfl, l8, hon8, _, hl8⟩
              have hl8 : l8.length = q := (hl8 (by decide)).trans hl7
              clear hpl hon7
              go_wp2
              exact ⟨⟨k + 1, l8, by omega, rfl, by go_num, hon8, hl8⟩, by simp [intOf]; omega⟩
            · obtain rfl : k = 62 := by omega
              have hpl := hon7.play (B := 0) (by omega) hL hL2 (by omega) ⟨7, (j : Int), 0, [], []⟩ (ok_lit ⟨by decide, by decide⟩ hjr ⟨by decide, by decide⟩) (.slice none 0 0) ints_none (Nat.zero_le _) (Nat.zero_le _)
              go_wp2_with fail
              refine hpl.mono ?_
              rintro e w8 ⟨rfl, l8, hon8, _, hl8⟩
              have hl8 : l8.length = q := (hl8 (by decide)).trans hl7
              clear hpl hon7
              go_wp2
              exact ⟨⟨j + 1, l8, by omega, rfl, by go_num, hon8.mono (by omega), hl8⟩, by simp [intOf]; omega⟩
        · obtain rfl : j = q := by omega
          go_wp2
          go_ret
          exact ⟨rfl, hno _ hon3.wto.kept⟩
end Go.Proofs.YtdpfohgkikjeaaaGreat
/- The statements' own: Edits, Jobs, All. -/
namespace Go.Proofs.YtdpfohgkikjeaaaGreat
open Go.RowKit
set_option linter.unusedVariables false
set_option linter.unusedSimpArgs false

theorem OpsAt.mono {w : World} {B L L' : Nat} {v : Value} {l : List OpS} (h : OpsAt w B L v l) (hL : L ≤ L') : OpsAt w B L' v l := ⟨fun m hm => ⟨(h.fits m hm).kind, (h.fits m hm).on, (h.fits m hm).a, Nat.le_trans (h.fits m hm).s hL⟩, h.few, h.low, h.at_⟩

theorem edits_walk {w : World} {B : Nat} {v : Value} {ops : List OpS} (hs : OpsAt w B 1048576 v ops) (hfew : ops.length ≤ 1048576) : Calls Tryz.prog 3 #[v] w fun e w' => e = .returned (.bool true) ∧ Kept no w w' := by
  have hr := run_w hs hfew (by decide) (by decide) 8 (by decide)
  clear hs
  go_enter Tryz.func3, Tryz.ntmps3
  go_wp2_with fail
  refine hr.mono ?_
  rintro e w1 ⟨rfl, hk⟩
  go_wp2
  go_ret
  exact ⟨rfl, hk⟩

theorem jobs_walk {w : World} {B : Nat} {v : Value} {ops : List OpS} (hs : OpsAt w B 1048576 v ops) (hfew : ops.length ≤ 1048576) : Calls Tryz.prog 4 #[v] w fun e w' => e = .returned (.bool true) ∧ Kept no w w' := by
  have hr := run_w hs hfew (by decide) (by decide) 11 (by decide)
  clear hs
  go_enter Tryz.func4, Tryz.ntmps4
  go_wp2_with fail
  refine hr.mono ?_
  rintro e w1 ⟨rfl, hk⟩
  go_wp2
  go_ret
  exact ⟨rfl, hk⟩

theorem all_walk {w : World} {B : Nat} {v : Value} {ops : List OpS} (hs : OpsAt w B 1048576 v ops) (hfew : ops.length ≤ 1048576) : Calls Tryz.prog 5 #[v] w fun e w' => e = .returned (.bool true) ∧ Kept no w w' := by
  have hr := run_w hs hfew (by decide) (by decide) 14 (by decide)
  clear hs
  go_enter Tryz.func5, Tryz.ntmps5
  go_wp2_with fail
  refine hr.mono ?_
  rintro e w1 ⟨rfl, hk⟩
  go_wp2
  go_ret
  exact ⟨rfl, hk⟩
end Go.Proofs.YtdpfohgkikjeaaaGreat
/- Arguments that are rows of numbers: how they are read, and that they read so again. -/
namespace Go.Proofs.YtdpfohgkikjeaaaGreat
open Go.RowKit Go.ChangeShapes Go.WideShapes Go.ChangeAt
set_option linter.unusedVariables false
set_option linter.unusedSimpArgs false

theorem cellsInt : Tryz.prog.cellsOf 3 = 1 := by kernel_rfl

theorem wf_raw {x : Int} (h : (Lit.int .i64 x).wf = true) : RawOk x := by
  have hx : -9223372036854775808 ≤ x ∧ x ≤ 9223372036854775807 := by simpa [Lit.wf, IntKind.min, IntKind.max, IntKind.signed, IntKind.bits] using h
  exact ⟨hx.1, by omega⟩

theorem plain_addr {w : World} {a : Addr} {v : Value} (h : w.cell? (a.add 0) = some v) : a = ⟨a.block, a.off, none⟩ := by
  obtain ⟨b, o, s⟩ := a
  cases s with
  | none => rfl
  | some s =>
    exfalso
    unfold World.cell? at h
    cases hh : w.heap[(Addr.add ⟨b, o, some s⟩ 0).block]? with
    | none => rw [hh] at h; cases h
    | some x =>
      rw [hh] at h
      cases x <;> simp [Addr.add] at h

/-- A row of numbers that came in. -/
theorem ints_arg {H : Type} {enc : TypeId × Value → H} {W : World} {v : Value} {d : DataW H} {p : List MemPlace}
    (hv : ∃ a len cap, v = .slice a len cap) (h0 : DataW.Trod enc Tryz.prog W 0 (fun _ => true) true 25 v d p) (hlt : ∀ q ∈ p, q.block < W.heap.size) :
    ∃ raw, IntsAt W W.heap.size v raw ∧ ∀ W', Kept no W W' → ∀ sp : Nat → Bool, (∀ q ∈ p, sp q.block = true) → DataW.Trod enc Tryz.prog W' 0 sp true 25 v d p := by
  obtain ⟨a0, len, cap, rfl⟩ := hv
  obtain ⟨fuel, hf⟩ := h0
  rcases open_ints Tryz.underlying25 Tryz.underlying3 cellsInt hf with ⟨hcs, hx⟩ | ⟨a, len', cap', zs, hcs, _, hl, hm, hz, hx, hcell, hwz⟩
  · simp [Value.cells] at hcs
    obtain ⟨rfl, rfl, rfl⟩ := hcs
    simp only [Prod.mk.injEq] at hx
    obtain ⟨rfl, rfl⟩ := hx
    refine ⟨[], ⟨by simp, by simp, Nat.le_refl _, .inl ⟨_, _, rfl, rfl⟩⟩, fun W' hk sp _ => ?_⟩
    exact ⟨1, by simp [DataW.trod, Tryz.underlying25, Value.cells]⟩
  · simp [Value.cells] at hcs
    obtain ⟨rfl, rfl, rfl⟩ := hcs
    simp only [Prod.mk.injEq] at hx
    obtain ⟨rfl, rfl⟩ := hx
    simp only [if_true] at hz
    have hblk : 0 < zs.length → a.block < W.heap.size := fun h => hlt (.cell a.block a.off) (MemPlace.mem_row.2 ⟨0, h, by simp⟩)
    have hcell' : ∀ W', Kept no W W' → ∀ i, i < zs.length → W'.cell? (a.add i) = some (.int .i64 (zs.getD i 0)) := fun W' hk i hi => by
      have hb := hblk (by omega)
      rw [World.cell?_of_block (w := W) (hk.block _ (by rw [block_add]; exact hb) (fun h => h))]
      exact hcell i hi
    refine ⟨zs.take len, ⟨fun x hx => wf_raw (hwz x (List.mem_of_mem_take hx)), by rw [List.length_take]; unfold maxLen at hm; omega, Nat.le_refl _, ?_⟩, fun W' hk sp hsp => ?_⟩
    · by_cases h0 : len = 0
      · subst h0
        exact .inl ⟨_, _, rfl, rfl⟩
      · have hpl := plain_addr (hcell 0 (by omega))
        have e : (zs.take len).length = len := by rw [List.length_take]; omega
        refine .inr ⟨a.block, a.off, cap, by rw [e, ← hpl], hblk (by omega), fun j x hx => ?_⟩
        have hj : j < len := by have := (List.getElem?_eq_some_iff.1 hx).1; omega
        have hc := hcell j (by omega)
        rw [hpl, add_at] at hc
        rw [hc]
        rw [List.getElem?_take, if_pos hj] at hx
        simp [List.getD_eq_getElem?_getD, hx, iv]
    · by_cases hz0 : zs.length = 0
      · have hc0 : cap = 0 := by omega
        have hl0 : len = 0 := by omega
        subst hc0; subst hl0
        have t0 := shut_ints (enc := enc) (w := W') (base := 0) (spare := sp) (held := true) (a := a) (len := 0) (cap := 0) (zs := zs) 0 Tryz.underlying25 Tryz.underlying3 cellsInt (Nat.zero_le _) (Nat.le_refl _) hm (by simp [hz0]) (hcell' W' hk) hwz
        exact ⟨2, by simpa [Value.cells] using t0⟩
      · have hspb : sp a.block = true := hsp (.cell a.block a.off) (MemPlace.mem_row.2 ⟨0, by omega, by simp⟩)
        have t0 := shut_ints (enc := enc) (w := W') (base := 0) (spare := sp) (held := true) (a := a) (len := len) (cap := cap) (zs := zs) 0 Tryz.underlying25 Tryz.underlying3 cellsInt (Nat.zero_le _) hl hm (by simp [hspb, hz]) (hcell' W' hk) hwz
        exact ⟨2, by simpa [Value.cells] using t0⟩

/-- The call's answer, where nothing that was there has turned. -/
theorem post_of_below {H : Type} {enc : TypeId × Value → H} {P : Program} {f : Func} {s : ChangeSpec} {apart fresh handsOn again : Bool} {W W' : World} {args : Array Value} {v : Value} {ds gs : List (DataW H)} {before pa pv : List MemPlace}
    (hW : DataW.Whole enc P f.params.toList s.vars apart W args.toList ds gs before)
    (hres : ∀ (b : Nat) (sp : Nat → Bool) (hd : Bool), DataW.TrodAll enc P W' b sp hd f.resultTypes.toList (v.resultList f.resultTypes.size) (s.fn H (ds ++ gs)).results [])
    (hargs : ∀ sp : Nat → Bool, (∀ p ∈ before, sp p.block = true) → DataW.TrodAll enc P W' 0 sp true f.params.toList args.toList (s.fn H (ds ++ gs)).args pa)
    (hvars : ∀ sp : Nat → Bool, (∀ p ∈ before, sp p.block = true) → DataW.TrodVars enc P W' sp s.vars (s.fn H (ds ++ gs)).vars pv)
    (hps : before = pa ++ pv) (hb : Below W.heap.size W W')
    (hok : ∀ (j : Nat) (t : TypeId) (r : Value), f.resultTypes[j]? = some t → (v.resultList f.resultTypes.size)[j]? = some r → Value.okWide P W' .any 0 t r) :
    s.post enc P f apart fresh handsOn again W args v W' := by
  have hlt := fun p hp => hW.lt p hp
  have hold : ∀ p ∈ before, (fun b => decide (b < W.heap.size)) p.block = true := fun p hp => by simpa using hlt p hp
  refine ⟨ds, gs, before, [], pa, pv, hW, hres _ _ _, hargs _ hold, hvars _ hold, World.keptBut_mono (fun p hp => ⟨hp, ?_⟩) (hb.frame (· ∈ before)), fun _ => ?_⟩
  · rw [hps, List.mem_append] at hp
    exact Or.inr hp
  · obtain ⟨_, _, _, _, _, hz, hn⟩ := hW
    refine ⟨hok, _, _, ([] ++ pa) ++ pv, ⟨[] ++ pa, pv, trodAll_append (hargs _ (fun _ _ => rfl)) (hres _ _ _), hvars _ (fun _ _ => rfl), rfl, ?_, ?_⟩, ?_⟩
    · intro b off hp
      have hp' : MemPlace.cell b off ∈ before := by rw [hps]; simpa using hp
      rw [hb.frozen (p := ⟨b, off, none⟩) (hlt _ hp')]
      exact hz b off hp'
    · intro ha
      have := hn ha
      rw [hps] at this
      simpa using this
    · intro p hp _
      rw [hps]
      simpa using hp
end Go.Proofs.YtdpfohgkikjeaaaGreat
/- One move of a script, as an argument: how it is read, and that it reads so again. -/
namespace Go.Proofs.YtdpfohgkikjeaaaGreat
open Go.RowKit Go.ChangeShapes Go.WideShapes Go.ChangeAt Go.Deep
set_option linter.unusedVariables false
set_option linter.unusedSimpArgs false

theorem moveFields : ∃ f0 f1 f2, Tryz.prog.underlying 40 = some (.struct #[f0, f1, f2]) ∧ (f0.offset = 0 ∧ f1.offset = 1 ∧ f2.offset = 2) ∧ f0.type = 3 ∧ f1.type = 3 ∧ f2.type = 25 :=
  ⟨_, _, _, Tryz.underlying40, ⟨rfl, rfl, rfl⟩, rfl, rfl, rfl⟩
theorem cellsMove : Tryz.prog.cellsOf 40 = 3 := by kernel_rfl
theorem cellsInts : Tryz.prog.cellsOf 25 = 1 := by kernel_rfl

theorem len_three {α : Type} {l : List α} (h : l.length = 3) : ∃ a b c, l = [a, b, c] := by
  match l, h with
  | [a, b, c], _ => exact ⟨a, b, c, rfl⟩

theorem int_cell {H : Type} {enc : TypeId × Value → H} {W : World} {base n : Nat} {sp : Nat → Bool} {hd : Bool} {v : Value} {y : DataW H × List MemPlace} (h : DataW.trod enc Tryz.prog W base sp hd n 3 [v] = some y) :
    ∃ k, v = .int .i64 k ∧ y = (.lit (.int .i64 k), []) ∧ (Lit.int .i64 k).wf = true := by
  obtain ⟨k, h1, h2, h3⟩ := DataW.trod_int Tryz.underlying3 h
  simp only [List.cons.injEq, and_true] at h1
  exact ⟨k, h1, h2, h3⟩

theorem row_cell {H : Type} {enc : TypeId × Value → H} {W : World} {base n : Nat} {sp : Nat → Bool} {hd : Bool} {v : Value} {y : DataW H × List MemPlace} (h : DataW.trod enc Tryz.prog W base sp hd n 25 [v] = some y) : ∃ a len cap, v = .slice a len cap := by
  rcases open_slice Tryz.underlying25 h with ⟨h1, _⟩ | ⟨a, len, cap, m, n, D, Pl, h1, _⟩
  · simp only [List.cons.injEq, and_true] at h1; exact ⟨_, _, _, h1⟩
  · simp only [List.cons.injEq, and_true] at h1; exact ⟨_, _, _, h1⟩

set_option maxRecDepth 100000 in
theorem move_elem {H : Type} {enc : TypeId × Value → H} {W : World} {a : Addr} {cs : List Value} {x : DataW H × List MemPlace} {fuel : Nat}
    (hc : W.cells? 0 a 3 = some cs) (ht : DataW.trod enc Tryz.prog W 0 (fun _ => true) true fuel 40 cs = some x) (hlt : ∀ q ∈ x.2, q.block < W.heap.size) :
    ∃ k q r raw, cs = [.int .i64 k, .int .i64 q, r] ∧ W.cell? (a.add 0) = some (.int .i64 k) ∧ W.cell? (a.add 1) = some (.int .i64 q) ∧ W.cell? (a.add 2) = some r ∧ RawOk k ∧ RawOk q ∧ IntsAt W W.heap.size r raw ∧
      ∀ W', Kept no W W' → ∀ sp : Nat → Bool, (∀ q ∈ x.2, sp q.block = true) → ∃ n, DataW.trod enc Tryz.prog W' 0 sp true n 40 cs = some x := by
  obtain ⟨f0, f1, f2, he, ⟨o0, o1, o2⟩, t0, t1, t2⟩ := moveFields
  obtain ⟨_, hlen, hcell⟩ := World.cells?_some hc
  obtain ⟨xs, n, hk, hxy, _, hxl, hf⟩ := DataW.trod_struct he ht
  obtain ⟨y0, y1, y2, rfl⟩ := len_three (show xs.length = 3 from hxl)
  obtain ⟨v0, v1, v2, rfl⟩ := len_three hlen
  have g0 := hf 0 f0 rfl
  have g1 := hf 1 f1 rfl
  have g2 := hf 2 f2 rfl
  simp [o0, o1, o2, t0, t1, t2, cellsInt, cellsInts] at g0 g1 g2
  have e0 := hcell 0 (by omega)
  have e1 := hcell 1 (by omega)
  have e2 := hcell 2 (by omega)
  obtain ⟨k, rfl, rfl, w0⟩ := int_cell g0
  obtain ⟨q, rfl, rfl, w1⟩ := int_cell g1
  have hv2 := row_cell g2
  subst hxy
  have hr := ints_arg (enc := enc) (W := W) (v := v2) (d := y2.1) (p := y2.2) hv2 (by obtain ⟨_, _, _, rfl⟩ := hv2; exact ⟨_, by simpa [Value.cells] using g2⟩) (fun q hq => hlt q (by simpa using hq))
  obtain ⟨raw, hraw, hag⟩ := hr
  refine ⟨k, q, v2, raw, rfl, by simpa using e0, by simpa using e1, by simpa using e2, wf_raw w0, wf_raw w1, hraw, fun W' hk' sp hsp => ?_⟩
  obtain ⟨m, hm⟩ := hag W' hk' sp (fun q hq => hsp q (by simpa using hq))
  have hm' : DataW.trod enc Tryz.prog W' 0 sp true m 25 [v2] = some y2 := by obtain ⟨_, _, _, rfl⟩ := hv2; simpa [Value.cells] using hm
  have := trod_struct3_mk (enc := enc) (P := Tryz.prog) (w := W') (base := 0) (spare := sp) (held := true) (n := m + 1) (cs := [.int .i64 k, .int .i64 q, v2]) he (by rw [cellsMove]; rfl)
    (by simpa [o0, t0, cellsInt] using trod_int_mk m Tryz.underlying3 w0) (by simpa [o1, t1, cellsInt] using trod_int_mk m Tryz.underlying3 w1) (by simpa [o2, t2, cellsInts] using DataW.trod_le (Nat.le_succ m) hm')
  exact ⟨_, by simpa using this⟩
end Go.Proofs.YtdpfohgkikjeaaaGreat
/- What the bound of the second form gives: a script is short. -/
namespace Go.Proofs.YtdpfohgkikjeaaaGreat
set_option linter.unusedVariables false
set_option linter.unusedSimpArgs false

theorem bulk_one {H : Type} (d : DataW H) : 1 ≤ Rows.uptoBulk d := by
  cases d with
  | lit l => cases l <;> simp [Rows.uptoBulk]
  | nil => simp [Rows.uptoBulk]
  | ptr d => simp [Rows.uptoBulk]
  | slice a b => simp [Rows.uptoBulk]
  | agg a => simp [Rows.uptoBulk]
  | iface t d => simp [Rows.uptoBulk]
  | map a => simp [Rows.uptoBulk]
  | held h => simp [Rows.uptoBulk]

theorem bulk_len {H : Type} : ∀ l : List (DataW H), l.length ≤ Rows.uptoBulkAll l
  | [] => Nat.zero_le _
  | d :: r => by
    have h1 := bulk_one d
    have h2 := bulk_len r
    rw [Rows.uptoBulkAll, List.length_cons]
    omega

theorem bulk_part {H : Type} {d : DataW H} : ∀ {l : List (DataW H)}, d ∈ l → Rows.uptoBulk d ≤ Rows.uptoBulkAll l
  | x :: r, h => by
    rw [Rows.uptoBulkAll]
    rcases List.mem_cons.1 h with rfl | h
    · omega
    · have := bulk_part h; omega

/-- The number of the moves of a script that is an argument. -/
theorem bulk_script {H : Type} {l : List (DataW H)} {d : DataW H} {m : Nat} (hk : Rows.uptoSmall H l = true) (hd : d ∈ l) (h : (d = .nil ∧ m = 0) ∨ ∃ items rest, d = .slice items rest ∧ items.length = m) : m ≤ 1048576 := by
  have hb : Rows.uptoBulkAll l ≤ 1048576 := of_decide_eq_true hk
  rcases h with ⟨_, rfl⟩ | ⟨items, rest, rfl, rfl⟩
  · exact Nat.zero_le _
  · have h1 := bulk_part hd
    have h2 := bulk_len items
    rw [Rows.uptoBulk] at h1
    omega
end Go.Proofs.YtdpfohgkikjeaaaGreat
/- A script of steps as an argument: how it is read, and that it reads so again. -/
namespace Go.Proofs.YtdpfohgkikjeaaaGreat
open Go.RowKit Go.ChangeShapes Go.WideShapes Go.ChangeAt Go.Deep
set_option linter.unusedVariables false
set_option linter.unusedSimpArgs false

theorem opFields : ∃ f0 f1 f2 f3 f4, Tryz.prog.underlying 72 = some (.struct #[f0, f1, f2, f3, f4]) ∧ (f0.offset = 0 ∧ f1.offset = 1 ∧ f2.offset = 2 ∧ f3.offset = 3 ∧ f4.offset = 4) ∧ f0.type = 3 ∧ f1.type = 3 ∧ f2.type = 3 ∧ f3.type = 9 ∧ f4.type = 25 :=
  ⟨_, _, _, _, _, Tryz.underlying72, ⟨rfl, rfl, rfl, rfl, rfl⟩, rfl, rfl, rfl, rfl, rfl⟩
theorem cellsOp : Tryz.prog.cellsOf 72 = 5 := by kernel_rfl
theorem cellsStr : Tryz.prog.cellsOf 9 = 1 := by kernel_rfl

theorem len_five {α : Type} {l : List α} (h : l.length = 5) : ∃ a b c d e, l = [a, b, c, d, e] := by
  match l, h with
  | [a, b, c, d, e], _ => exact ⟨a, b, c, d, e, rfl⟩

theorem trod_string_mk {H : Type} {enc : TypeId × Value → H} {P : Program} {w : World} {base : Nat} {spare : Nat → Bool} {held : Bool} {t : TypeId} {s : ByteArray} (m : Nat) (ht : P.underlying t = some .string) (hw : s.size ≤ maxLen) : DataW.trod enc P w base spare held (m + 1) t [.string s] = some (.lit (.string s.data.toList), []) := by
  simp [DataW.trod, ht, hw]

set_option maxRecDepth 100000 in
theorem op_elem {H : Type} {enc : TypeId × Value → H} {W : World} {a : Addr} {cs : List Value} {x : DataW H × List MemPlace} {fuel : Nat}
    (hc : W.cells? 0 a 5 = some cs) (ht : DataW.trod enc Tryz.prog W 0 (fun _ => true) true fuel 72 cs = some x) (hlt : ∀ q ∈ x.2, q.block < W.heap.size) :
    ∃ (m : OpS) (r : Value), cs = [.int .i64 m.kind, .int .i64 m.on, .int .i64 m.a, sv m.s, r] ∧ (∀ j v, cs[j]? = some v → W.cell? (a.add j) = some v) ∧ RawOk m.kind ∧ RawOk m.on ∧ RawOk m.a ∧ m.s.length ≤ Rows.uptoBulk x.1 ∧ IntsAt W W.heap.size r m.raw ∧
      ∀ W', Kept no W W' → ∀ sp : Nat → Bool, (∀ q ∈ x.2, sp q.block = true) → ∃ n, DataW.trod enc Tryz.prog W' 0 sp true n 72 cs = some x := by
  obtain ⟨f0, f1, f2, f3, f4, he, ⟨o0, o1, o2, o3, o4⟩, t0, t1, t2, t3, t4⟩ := opFields
  obtain ⟨_, hlen, hcell⟩ := World.cells?_some hc
  obtain ⟨xs, n, hk, hxy, _, hxl, hf⟩ := DataW.trod_struct he ht
  obtain ⟨y0, y1, y2, y3, y4, rfl⟩ := len_five (show xs.length = 5 from hxl)
  obtain ⟨v0, v1, v2, v3, v4, rfl⟩ := len_five hlen
  have g0 := hf 0 f0 rfl
  have g1 := hf 1 f1 rfl
  have g2 := hf 2 f2 rfl
  have g3 := hf 3 f3 rfl
  have g4 := hf 4 f4 rfl
  simp [o0, o1, o2, o3, o4, t0, t1, t2, t3, t4, cellsInt, cellsInts, cellsStr] at g0 g1 g2 g3 g4
  obtain ⟨k0, rfl, rfl, w0⟩ := int_cell g0
  obtain ⟨k1, rfl, rfl, w1⟩ := int_cell g1
  obtain ⟨k2, rfl, rfl, w2⟩ := int_cell g2
  obtain ⟨s3, h3, rfl, w3⟩ := DataW.trod_string Tryz.underlying9 g3
  simp only [List.cons.injEq, and_true] at h3
  subst h3
  have hv4 := row_cell g4
  subst hxy
  obtain ⟨raw, hraw, hag⟩ := ints_arg (enc := enc) (W := W) (v := v4) (d := y4.1) (p := y4.2) hv4 (by obtain ⟨_, _, _, rfl⟩ := hv4; exact ⟨_, by simpa [Value.cells] using g4⟩) (fun q hq => hlt q (by simpa using hq))
  refine ⟨⟨k0, k1, k2, s3.data.toList, raw⟩, v4, rfl, fun j v hj => ?_, wf_raw w0, wf_raw w1, wf_raw w2, ?_, hraw, fun W' hk' sp hsp => ?_⟩
  · have hjl : j < 5 := by have := (List.getElem?_eq_some_iff.1 hj).1; simpa using this
    have := hcell j hjl
    rw [this]
    exact hj
  · simp [Rows.uptoBulk, Rows.uptoBulkAll]
    omega
  · obtain ⟨m, hm⟩ := hag W' hk' sp (fun q hq => hsp q (by simpa using hq))
    have hm' : DataW.trod enc Tryz.prog W' 0 sp true m 25 [v4] = some y4 := by obtain ⟨_, _, _, rfl⟩ := hv4; simpa [Value.cells] using hm
    have := trod_struct_mk (enc := enc) (P := Tryz.prog) (w := W') (base := 0) (spare := sp) (held := true) (n := m + 1) (cs := [.int .i64 k0, .int .i64 k1, .int .i64 k2, sv s3.data.toList, v4]) (xs := [(.lit (.int .i64 k0), []), (.lit (.int .i64 k1), []), (.lit (.int .i64 k2), []), (.lit (.string s3.data.toList), []), y4]) he (by rw [cellsOp]; rfl)
      (by
        have e0 := trod_int_mk (enc := enc) (P := Tryz.prog) (w := W') (base := 0) (spare := sp) (held := true) m Tryz.underlying3 w0
        have e1 := trod_int_mk (enc := enc) (P := Tryz.prog) (w := W') (base := 0) (spare := sp) (held := true) m Tryz.underlying3 w1
        have e2 := trod_int_mk (enc := enc) (P := Tryz.prog) (w := W') (base := 0) (spare := sp) (held := true) m Tryz.underlying3 w2
        have e3 := trod_string_mk (enc := enc) (P := Tryz.prog) (w := W') (base := 0) (spare := sp) (held := true) (s := s3) m Tryz.underlying9 w3
        have e4 := DataW.trod_le (Nat.le_succ m) hm'
        have e3' : DataW.trod enc Tryz.prog W' 0 sp true (m + 1) 9 [.string ⟨s3.data⟩] = some (.lit (.string s3.data.toList), []) := e3
        simp [o0, o1, o2, o3, o4, t0, t1, t2, t3, t4, cellsInt, cellsInts, cellsStr, e0, e1, e2, e3', e4, sv])
    exact ⟨_, by simpa using this⟩

theorem bulk_mem {H : Type} {l : List (DataW H)} {d : DataW H} (h : d ∈ l) : Rows.uptoBulk d ≤ Rows.uptoBulkAll l := bulk_part h

set_option maxRecDepth 100000 in
theorem ops_arg {H : Type} {enc : TypeId × Value → H} {W : World} {v : Value} {d : DataW H} {p : List MemPlace}
    (hv : ∃ a len cap, v = .slice a len cap) (h0 : DataW.Trod enc Tryz.prog W 0 (fun _ => true) true 22 v d p) (hlt : ∀ q ∈ p, q.block < W.heap.size) :
    ∃ l : List OpS, OpsAt W W.heap.size (Rows.uptoBulk d) v l ∧ ((d = .nil ∧ l.length = 0) ∨ ∃ items rest, d = .slice items rest ∧ items.length = l.length) ∧
      ∀ W', Kept no W W' → ∀ sp : Nat → Bool, (∀ q ∈ p, sp q.block = true) → DataW.Trod enc Tryz.prog W' 0 sp true 22 v d p := by
  obtain ⟨a0, len, cap, rfl⟩ := hv
  obtain ⟨fuel, hf⟩ := h0
  rcases open_slice Tryz.underlying22 hf with ⟨hcs, hx⟩ | ⟨a, len', cap', m, n, D, Pl, hcs, _, hl, hm, hmm, hx, hel⟩
  · simp [Value.cells] at hcs
    obtain ⟨rfl, rfl, rfl⟩ := hcs
    simp only [Prod.mk.injEq] at hx
    obtain ⟨rfl, rfl⟩ := hx
    exact ⟨[], ⟨by simp, by simp, Nat.le_refl _, .inl ⟨_, _, rfl, rfl⟩⟩, .inl ⟨rfl, rfl⟩, fun W' hk sp _ => ⟨1, by simp [DataW.trod, Tryz.underlying22, Value.cells]⟩⟩
  · simp [Value.cells] at hcs
    obtain ⟨rfl, rfl, rfl⟩ := hcs
    simp only [Prod.mk.injEq] at hx
    obtain ⟨rfl, rfl⟩ := hx
    simp only [if_true] at hmm
    subst hmm
    have hE : ∀ i, i < m → ∃ e : OpS, ∃ r cs, W.cells? 0 (a.add (i * 5)) 5 = some cs ∧ cs = [.int .i64 e.kind, .int .i64 e.on, .int .i64 e.a, sv e.s, r] ∧ (∀ j v, cs[j]? = some v → W.cell? ((a.add (i * 5)).add j) = some v) ∧ RawOk e.kind ∧ RawOk e.on ∧ RawOk e.a ∧ e.s.length ≤ Rows.uptoBulk (D i) ∧ IntsAt W W.heap.size r e.raw ∧
        ∀ W', Kept no W W' → ∀ sp : Nat → Bool, (∀ q ∈ Pl i, sp q.block = true) → ∃ n, DataW.trod enc Tryz.prog W' 0 sp true n 72 cs = some (D i, Pl i) := fun i hi => by
      obtain ⟨cs', h1, h2⟩ := hel i hi
      rw [cellsOp] at h1
      obtain ⟨e, r, e1, c0, o1, o2, o3, o4, hr, hag⟩ := op_elem h1 h2 (fun q hq => hlt q (List.mem_append_right _ (List.mem_flatMap.2 ⟨i, List.mem_range.2 hi, hq⟩)))
      exact ⟨e, r, cs', h1, e1, c0, o1, o2, o3, o4, hr, hag⟩
    have hinh : Inhabited OpS := ⟨⟨0, 0, 0, [], []⟩⟩
    obtain ⟨E, hE⟩ := choose_lt hE
    refine ⟨(List.range len).map E, ?_, .inr ⟨_, _, rfl, by simp⟩, fun W' hk sp hsp => ?_⟩
    · refine ⟨fun x hx => ?_, by rw [List.length_map, List.length_range]; unfold maxLen at hm; omega, Nat.le_refl _, ?_⟩
      · obtain ⟨i, hi, rfl⟩ := List.mem_map.1 hx
        have hi := List.mem_range.1 hi
        obtain ⟨r, cs, _, _, _, o1, o2, o3, o4, _⟩ := hE i (by omega)
        refine ⟨o1, o2, o3, Nat.le_trans o4 ?_⟩
        rw [Rows.uptoBulk]
        have h1 := bulk_mem (H := H) (d := D i) (l := (List.range len).map D) (List.mem_map.2 ⟨i, List.mem_range.2 hi, rfl⟩)
        omega
      · by_cases hl0 : len = 0
        · subst hl0
          exact .inl ⟨_, _, rfl, rfl⟩
        · obtain ⟨r, cs, _, e0, c0, _⟩ := hE 0 (by omega)
          have hpl := plain_addr (v := .int .i64 (E 0).kind) (by simpa [add_add] using c0 0 _ (by rw [e0]; rfl) : W.cell? (a.add 0) = some _)
          refine .inr ⟨a.block, a.off, m, by rw [List.length_map, List.length_range, ← hpl], hlt (.cell a.block a.off) (List.mem_append_left _ (MemPlace.mem_row.2 ⟨0, by rw [cellsOp]; omega, by simp⟩)), fun j m' hj => ?_⟩
          have hjl : j < len := by have := (List.getElem?_eq_some_iff.1 hj).1; simpa using this
          have hE' : E j = m' := by simpa [hjl] using hj
          subst hE'
          obtain ⟨r, cs, _, e1, c0, _, _, _, _, hr, _⟩ := hE j (by omega)
          have g := fun k v hk => c0 k v (by rw [e1]; exact hk)
          have q0 := g 0 _ rfl
          have q1 := g 1 _ rfl
          have q2 := g 2 _ rfl
          have q3 := g 3 _ rfl
          have q4 := g 4 _ rfl
          rw [add_add, hpl, add_at] at q0 q1 q2 q3 q4
          exact ⟨r, by simpa [Nat.add_assoc] using q0, by simpa [Nat.add_assoc] using q1, by simpa [Nat.add_assoc] using q2, by simpa [Nat.add_assoc] using q3, by simpa [Nat.add_assoc] using q4, hr⟩
    · have hx : ∀ i, i < m → ∃ cs n, W'.cells? 0 (a.add (i * Tryz.prog.cellsOf 72)) (Tryz.prog.cellsOf 72) = some cs ∧ DataW.trod enc Tryz.prog W' 0 sp true n 72 cs = some (D i, Pl i) := fun i hi => by
        obtain ⟨r, cs, hc, he, c0, _, _, _, _, _, hag⟩ := hE i hi
        obtain ⟨n, hn⟩ := hag W' hk sp (fun q hq => hsp q (List.mem_append_right _ (List.mem_flatMap.2 ⟨i, List.mem_range.2 hi, hq⟩)))
        have hpl := plain_addr (c0 0 _ (by rw [he]; rfl))
        have hblk : (a.add (i * 5)).block < W.heap.size := by
          have := hlt (.cell a.block a.off) (List.mem_append_left _ (MemPlace.mem_row.2 ⟨0, by rw [cellsOp]; omega, by simp⟩))
          rw [block_add]; exact this
        refine ⟨cs, n, ?_, hn⟩
        rw [cellsOp, hpl]
        refine cells?_of (Nat.zero_le _) (by rw [he]; rfl) fun j hj => ?_
        have hB : ∀ o, W'.cell? ⟨(a.add (i * 5)).block, o, none⟩ = W.cell? ⟨(a.add (i * 5)).block, o, none⟩ := fun o => World.cell?_of_block (hk.block _ hblk (fun h => h))
        have hjl : j < cs.length := by rw [he]; exact hj
        have hcj := c0 j cs[j] (by simp [hjl])
        rw [hpl, add_at] at hcj
        rw [List.getElem?_eq_getElem hjl]
        exact (hB _).trans hcj
      cases hb : sp a.block with
      | true =>
        obtain ⟨n, hn⟩ := shut_slice_whole_cells (enc := enc) (w := W') (base := 0) (spare := sp) (held := true) (a := a) Tryz.underlying22 (Nat.zero_le _) hl hm hb D Pl hx
        exact ⟨n, by simpa [Value.cells] using hn⟩
      | false =>
        have hm0 : m = 0 := by
          rcases Nat.eq_zero_or_pos m with h | h
          · exact h
          · have := hsp (.cell a.block a.off) (List.mem_append_left _ (MemPlace.mem_row.2 ⟨0, by rw [cellsOp]; omega, by simp⟩))
            have this : sp a.block = true := this
            rw [hb] at this; cases this
        subst hm0
        obtain rfl : len = 0 := by omega
        obtain ⟨n, hn⟩ := shut_slice_cells (enc := enc) (w := W') (base := 0) (spare := sp) (held := true) (a := a) Tryz.underlying22 (Nat.zero_le _) hl hm hb D Pl hx
        exact ⟨n, by simpa [Value.cells] using hn⟩
end Go.Proofs.YtdpfohgkikjeaaaGreat
