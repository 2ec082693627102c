import PyProof.Rows.All
import Wide.All
import OpenK.AllK
import Wide.FinOn
import HandS.ForMost
import HandS.IsInst
import HandS.Zip
import HandS.Rev
import HandS.Style
import HandS.DictComp
import PySem.Challenge.RW_yesterpost_k01_names
set_option Elab.async false
set_option linter.all false
set_option maxRecDepth 100000
set_option maxHeartbeats 2000000
namespace Yp
open PySem PySem.Spec PyProof.Rows L2

/-! ### data: what a value is, all the way down -/
inductive D where
  | non | bl (b : Bool) | int (i : Int) | str (s : Str) | lst (xs : List D) | tup (xs : List D) | dct (kvs : List (Key × D))

mutual
inductive Dv (K : PySem.W.Frag) (F : Hp) : V → D → Prop
  | non : Dv K F .non .non
  | bl (b : Bool) : Dv K F (.bl b) (.bl b)
  | int (i : Int) : Dv K F (.int i) (.int i)
  | str (s : Str) : Dv K F (.str s) (.str s)
  | lst {a : Addr} {xs : List V} {ds : List D} : SqL K F a xs → Dvs K F xs ds → Dv K F (.ref a) (.lst ds)
  | tup {a : Addr} {xs : List V} {ds : List D} : SqT K F a xs → Dvs K F xs ds → Dv K F (.ref a) (.tup ds)
  | dct {a : Addr} {kvs : List (Key × V)} {ds : List (Key × D)} : F a = some (.dK kvs) → Dks K F kvs ds → Dv K F (.ref a) (.dct ds)
inductive Dvs (K : PySem.W.Frag) (F : Hp) : List V → List D → Prop
  | nil : Dvs K F [] []
  | cons {v : V} {vs : List V} {d : D} {ds : List D} : Dv K F v d → Dvs K F vs ds → Dvs K F (v :: vs) (d :: ds)
inductive Dks (K : PySem.W.Frag) (F : Hp) : List (Key × V) → List (Key × D) → Prop
  | nil : Dks K F [] []
  | cons {k : Key} {v : V} {vs : List (Key × V)} {d : D} {ds : List (Key × D)} : Dv K F v d → Dks K F vs ds → Dks K F ((k, v) :: vs) ((k, d) :: ds)
end

/-- H' knows all that H knows -/
def Ex (H H' : Hp) : Prop := ∀ a o, H a = some o → H' a = some o
theorem Ex.refl (H : Hp) : Ex H H := fun _ _ h => h
theorem Ex.trans {H H1 H2 : Hp} (a : Ex H H1) (b : Ex H1 H2) : Ex H H2 := fun x o h => b x o (a x o h)
theorem Ex.new {H : Hp} {p : Addr} {o : HO} (h : H p = none) : Ex H (upd H p o) := fun a u e => by
  rw [upd_ne (ne_of_none e h)]; exact e
theorem Ex.back {H H' : Hp} {p : Addr} (e : Ex H H') (h : H' p = none) : H p = none := by
  cases h1 : H p with
  | none => rfl
  | some o => rw [e p o h1] at h; cases h
theorem Ex.sqL {K : PySem.W.Frag} {H H' : Hp} {a : Addr} {xs : List V} (e : Ex H H') (h : SqL K H a xs) : SqL K H' a xs := by
  rcases h with (h | ⟨o, h⟩) | h
  · exact .inl (.inl (e _ _ h))
  · exact .inl (.inr ⟨o, e _ _ h⟩)
  · exact .inr h
theorem Ex.sqT {K : PySem.W.Frag} {H H' : Hp} {a : Addr} {xs : List V} (e : Ex H H') (h : SqT K H a xs) : SqT K H' a xs := by
  rcases h with (h | ⟨o, h⟩) | h
  · exact .inl (.inl (e _ _ h))
  · exact .inl (.inr ⟨o, e _ _ h⟩)
  · exact .inr h
section
variable {K : PySem.W.Frag} {F F' : Hp}
mutual
theorem Dv.mono (e : Ex F F') : ∀ {v : V} {d : D}, Dv K F v d → Dv K F' v d
  | _, _, .non => .non
  | _, _, .bl b => .bl b
  | _, _, .int i => .int i
  | _, _, .str s => .str s
  | _, _, .lst h t => .lst (e.sqL h) (Dvs.mono e t)
  | _, _, .tup h t => .tup (e.sqT h) (Dvs.mono e t)
  | _, _, .dct h t => .dct (e _ _ h) (Dks.mono e t)
theorem Dvs.mono (e : Ex F F') : ∀ {vs : List V} {ds : List D}, Dvs K F vs ds → Dvs K F' vs ds
  | _, _, .nil => .nil
  | _, _, .cons h t => .cons (Dv.mono e h) (Dvs.mono e t)
theorem Dks.mono (e : Ex F F') : ∀ {vs : List (Key × V)} {ds : List (Key × D)}, Dks K F vs ds → Dks K F' vs ds
  | _, _, .nil => .nil
  | _, _, .cons h t => .cons (Dv.mono e h) (Dks.mono e t)
end
theorem Dvs.length : ∀ {vs : List V} {ds : List D}, Dvs K F vs ds → vs.length = ds.length
  | _, _, .nil => rfl
  | _, _, .cons _ t => by rw [List.length_cons, List.length_cons, t.length]
theorem Dvs.get : ∀ {vs : List V} {ds : List D}, Dvs K F vs ds → ∀ {i : Nat} {d : D}, ds[i]? = some d → ∃ v, vs[i]? = some v ∧ Dv K F v d
  | _, _, .nil, _, _, e => by simp at e
  | _, _, .cons h _, 0, _, e => by simp at e; subst e; exact ⟨_, rfl, h⟩
  | _, _, .cons _ t, i + 1, d, e => by
    obtain ⟨v, h1, h2⟩ := t.get (i := i) (d := d) (by simpa using e)
    exact ⟨v, by simpa using h1, h2⟩
theorem Dvs.of_get : ∀ {vs : List V} {ds : List D}, Dvs K F vs ds → ∀ {i : Nat} {v : V}, vs[i]? = some v → ∃ d, ds[i]? = some d ∧ Dv K F v d
  | _, _, .nil, _, _, e => by simp at e
  | _, _, .cons h _, 0, _, e => by simp at e; subst e; exact ⟨_, rfl, h⟩
  | _, _, .cons _ t, i + 1, d, e => by
    obtain ⟨v, h1, h2⟩ := t.of_get (i := i) (v := d) (by simpa using e)
    exact ⟨v, by simpa using h1, h2⟩
theorem Dvs.append : ∀ {vs : List V} {ds : List D} {ws : List V} {es : List D}, Dvs K F vs ds → Dvs K F ws es → Dvs K F (vs ++ ws) (ds ++ es)
  | _, _, _, _, .nil, s => s
  | _, _, _, _, .cons h t, s => .cons h (t.append s)
theorem Dvs.snoc {vs : List V} {ds : List D} {v : V} {d : D} (h : Dvs K F vs ds) (h1 : Dv K F v d) : Dvs K F (vs ++ [v]) (ds ++ [d]) := h.append (.cons h1 .nil)
theorem Dvs.take : ∀ {vs : List V} {ds : List D} (n : Nat), Dvs K F vs ds → Dvs K F (vs.take n) (ds.take n)
  | _, _, 0, _ => .nil
  | _, _, _ + 1, .nil => .nil
  | _, _, n + 1, .cons h t => .cons h (t.take n)
theorem Dvs.drop : ∀ {vs : List V} {ds : List D} (n : Nat), Dvs K F vs ds → Dvs K F (vs.drop n) (ds.drop n)
  | _, _, 0, r => r
  | _, _, _ + 1, .nil => .nil
  | _, _, n + 1, .cons _ t => t.drop n
theorem Dvs.set {v : V} {d : D} (h : Dv K F v d) : ∀ {vs : List V} {ds : List D} (i : Nat), Dvs K F vs ds → Dvs K F (vs.set i v) (ds.set i d)
  | _, _, _, .nil => .nil
  | _, _, 0, .cons _ t => .cons h t
  | _, _, i + 1, .cons q t => .cons q (t.set h i)
theorem Dvs.reverse : ∀ {vs : List V} {ds : List D}, Dvs K F vs ds → Dvs K F vs.reverse ds.reverse
  | _, _, .nil => .nil
  | _, _, .cons h t => by rw [List.reverse_cons, List.reverse_cons]; exact t.reverse.snoc h
theorem Dvs.ints : ∀ {vs : List V} {ns : List Int}, Dvs K F vs (ns.map D.int) → vs = ns.map V.int
  | _, [], h => by cases h; rfl
  | _, n :: ns, h => by
    cases h with
    | cons h t => cases h; rw [t.ints]; rfl
theorem Dvs.bls : ∀ {vs : List V} {ns : List Bool}, Dvs K F vs (ns.map D.bl) → vs = ns.map V.bl
  | _, [], h => by cases h; rfl
  | _, n :: ns, h => by
    cases h with
    | cons h t => cases h; rw [t.bls]; rfl
theorem Dvs.strs : ∀ {vs : List V} {ns : List Str}, Dvs K F vs (ns.map D.str) → vs = ns.map V.str
  | _, [], h => by cases h; rfl
  | _, n :: ns, h => by
    cases h with
    | cons h t => cases h; rw [t.strs]; rfl
theorem Dvs.of_ints : ∀ {ns : List Int}, Dvs K F (ns.map V.int) (ns.map D.int)
  | [] => .nil
  | _ :: _ => .cons (.int _) .of_ints
/-- a value without parts -/
def D.flat : D → Bool
  | .non => true | .bl _ => true | .int _ => true | .str _ => true | _ => false
theorem Dv.flat {v : V} {d : D} (h : Dv K F v d) (hf : d.flat = true) {F2 : Hp} : Dv K F2 v d := by
  cases h with
  | non => exact .non
  | bl b => exact .bl b
  | int i => exact .int i
  | str s => exact .str s
  | lst _ _ => cases hf
  | tup _ _ => cases hf
  | dct _ _ => cases hf
end

/-! ### steps: what is frozen (F) and what stands (H) grow -/
structure Stp (F H F' H' : Hp) : Prop where
  ff : Ex F F'
  fh : Ex F' H'
  hh : Ex H H'
  nw : ∀ p o, F' p = some o → F p = some o ∨ H p = none
theorem Stp.refl {F H : Hp} (e : Ex F H) : Stp F H F H := ⟨Ex.refl F, e, Ex.refl H, fun _ _ h => .inl h⟩
theorem Stp.trans {F H F1 H1 F2 H2 : Hp} (a : Stp F H F1 H1) (b : Stp F1 H1 F2 H2) : Stp F H F2 H2 :=
  ⟨a.ff.trans b.ff, b.fh, a.hh.trans b.hh, fun p o h => by
    rcases b.nw p o h with h | h
    · exact a.nw p o h
    · exact .inr (a.hh.back h)⟩
theorem Stp.new {F H : Hp} {p : Addr} {o : HO} (e : Ex F H) (h : H p = none) : Stp F H (upd F p o) (upd H p o) where
  ff := Ex.new (e.back h)
  fh := fun a u q => by
    by_cases z : a = p
    · subst z; rw [upd_same] at q ⊢; exact q
    · rw [upd_ne z] at q ⊢; exact e a u q
  hh := Ex.new h
  nw := fun a u q => by
    by_cases z : a = p
    · subst z; exact .inr h
    · rw [upd_ne z] at q; exact .inl q
/-- a new object that is not frozen -/
theorem Stp.own {F H : Hp} {p : Addr} {o : HO} (e : Ex F H) (h : H p = none) : Stp F H F (upd H p o) where
  ff := Ex.refl F
  fh := e.trans (Ex.new h)
  hh := Ex.new h
  nw := fun _ _ q => .inl q

/-! ### slots -/
inductive Sl where
  | val (d : D) | own (ds : List D) | any
structure Hd (K : PySem.W.Frag) (B F H : Hp) (ρ : List Sl) (σ : L2.St) : Prop where
  fh : Ex F H
  val : ∀ (i : Nat) (d : D), ρ[i]? = some (.val d) → ∃ v, σ[i]? = some (some v) ∧ Dv K F v d
  own : ∀ (i : Nat) (ds : List D), ρ[i]? = some (.own ds) → ∃ p vs, σ[i]? = some (some (.ref p)) ∧ B p = none ∧ F p = none ∧ H p = some (.lst vs) ∧ Dvs K F vs ds
  sep : ∀ (i j : Nat) (ds es : List D) (p : Addr), ρ[i]? = some (.own ds) → ρ[j]? = some (.own es) → σ[i]? = some (some (.ref p)) → σ[j]? = some (some (.ref p)) → i = j
  len : σ.length = ρ.length
section
variable {K : PySem.W.Frag} {B F H F' H' : Hp} {ρ : List Sl} {σ : L2.St}
theorem Hd.step (h : Hd K B F H ρ σ) (s : Stp F H F' H') : Hd K B F' H' ρ σ where
  fh := s.fh
  val := fun i d e => by
    obtain ⟨v, h1, h2⟩ := h.val i d e
    exact ⟨v, h1, h2.mono s.ff⟩
  own := fun i ds e => by
    obtain ⟨p, vs, h1, hb, h2, h3, h4⟩ := h.own i ds e
    refine ⟨p, vs, h1, hb, ?_, s.hh _ _ h3, h4.mono s.ff⟩
    cases q : F' p with
    | none => rfl
    | some o =>
      rcases s.nw p o q with z | z
      · rw [h2] at z; cases z
      · rw [h3] at z; cases z
  sep := h.sep
  len := h.len
theorem Hd.set (h : Hd K B F H ρ σ) {v : V} {d : D} (hv : Dv K F v d) (i : Nat) : Hd K B F H (ρ.set i (.val d)) (σ.set i (some v)) where
  fh := h.fh
  val := fun j e q => by
    by_cases z : i = j
    · subst z
      have hl : i < ρ.length := by
        cases hh : (ρ.set i (Sl.val d))[i]? with
        | none => rw [hh] at q; cases q
        | some x => have := List.getElem?_eq_some_iff.mp hh; obtain ⟨w, _⟩ := this; simpa using w
      rw [List.getElem?_set_self hl] at q
      cases q
      exact ⟨v, by rw [List.getElem?_set_self (by rw [h.len]; exact hl)], hv⟩
    · rw [List.getElem?_set_ne z] at q
      rw [List.getElem?_set_ne z]
      exact h.val j e q
  own := fun j e q => by
    by_cases z : i = j
    · subst z
      have hl : i < ρ.length := by
        cases hh : (ρ.set i (Sl.val d))[i]? with
        | none => rw [hh] at q; cases q
        | some x => have := List.getElem?_eq_some_iff.mp hh; obtain ⟨w, _⟩ := this; simpa using w
      rw [List.getElem?_set_self hl] at q
      cases q
    · rw [List.getElem?_set_ne z] at q
      rw [List.getElem?_set_ne z]
      exact h.own j e q
  sep := fun a b ds es p ha hb qa qb => by
    by_cases z : i = a
    · subst z
      have hl : i < ρ.length := by
        have := List.getElem?_eq_some_iff.mp ha; obtain ⟨w, _⟩ := this; simpa using w
      rw [List.getElem?_set_self hl] at ha
      cases ha
    · by_cases y : i = b
      · subst y
        have hl : i < ρ.length := by
          have := List.getElem?_eq_some_iff.mp hb; obtain ⟨w, _⟩ := this; simpa using w
        rw [List.getElem?_set_self hl] at hb
        cases hb
      · rw [List.getElem?_set_ne z] at ha qa
        rw [List.getElem?_set_ne y] at hb qb
        exact h.sep a b ds es p ha hb qa qb
  len := by rw [List.length_set, List.length_set, h.len]
/-- an owned list comes to slot i -/
theorem Hd.setOwn (h : Hd K B F H ρ σ) {p : Addr} {vs : List V} {ds : List D} (hb : B p = none) (hf : F p = none) (hH : H p = some (.lst vs)) (hv : Dvs K F vs ds)
    (no : ∀ (j : Nat) (es : List D), ρ[j]? = some (.own es) → j ≠ i → σ[j]? ≠ some (some (.ref p))) (i0 : i = i) : Hd K B F H (ρ.set i (.own ds)) (σ.set i (some (.ref p))) where
  fh := h.fh
  val := fun j e q => by
    by_cases z : i = j
    · subst z
      have hl : i < ρ.length := by
        have := List.getElem?_eq_some_iff.mp q; obtain ⟨w, _⟩ := this; simpa using w
      rw [List.getElem?_set_self hl] at q
      cases q
    · rw [List.getElem?_set_ne z] at q
      rw [List.getElem?_set_ne z]
      exact h.val j e q
  own := fun j e q => by
    by_cases z : i = j
    · subst z
      have hl : i < ρ.length := by
        have := List.getElem?_eq_some_iff.mp q; obtain ⟨w, _⟩ := this; simpa using w
      rw [List.getElem?_set_self hl] at q
      cases q
      exact ⟨p, vs, by rw [List.getElem?_set_self (by rw [h.len]; exact hl)], hb, hf, hH, hv⟩
    · rw [List.getElem?_set_ne z] at q
      rw [List.getElem?_set_ne z]
      exact h.own j e q
  sep := fun a b ds' es' p' ha hb' qa qb => by
    by_cases z : i = a
    · by_cases y : i = b
      · rw [← z, ← y]
      · subst z
        have hl : i < σ.length := by
          have := List.getElem?_eq_some_iff.mp qa; obtain ⟨w, _⟩ := this; simpa using w
        rw [List.getElem?_set_self hl] at qa
        rw [List.getElem?_set_ne y] at hb' qb
        cases qa
        exact absurd qb (no b es' hb' (Ne.symm y))
    · by_cases y : i = b
      · subst y
        have hl : i < σ.length := by
          have := List.getElem?_eq_some_iff.mp qb; obtain ⟨w, _⟩ := this; simpa using w
        rw [List.getElem?_set_self hl] at qb
        rw [List.getElem?_set_ne z] at ha qa
        cases qb
        exact absurd qa (no a ds' ha (Ne.symm z))
      · rw [List.getElem?_set_ne z] at ha qa
        rw [List.getElem?_set_ne y] at hb' qb
        exact h.sep a b ds' es' p' ha hb' qa qb
  len := by rw [List.length_set, List.length_set, h.len]
theorem Hd.forget (h : Hd K B F H ρ σ) (i : Nat) (x : Option V) : Hd K B F H (ρ.set i .any) (σ.set i x) where
  fh := h.fh
  val := fun j e q => by
    by_cases z : i = j
    · subst z
      have hl : i < ρ.length := by
        have := List.getElem?_eq_some_iff.mp q; obtain ⟨w, _⟩ := this; simpa using w
      rw [List.getElem?_set_self hl] at q
      cases q
    · rw [List.getElem?_set_ne z] at q
      rw [List.getElem?_set_ne z]
      exact h.val j e q
  own := fun j e q => by
    by_cases z : i = j
    · subst z
      have hl : i < ρ.length := by
        have := List.getElem?_eq_some_iff.mp q; obtain ⟨w, _⟩ := this; simpa using w
      rw [List.getElem?_set_self hl] at q
      cases q
    · rw [List.getElem?_set_ne z] at q
      rw [List.getElem?_set_ne z]
      exact h.own j e q
  sep := fun a b ds es p ha hb qa qb => by
    by_cases z : i = a
    · subst z
      have hl : i < ρ.length := by
        have := List.getElem?_eq_some_iff.mp ha; obtain ⟨w, _⟩ := this; simpa using w
      rw [List.getElem?_set_self hl] at ha
      cases ha
    · by_cases y : i = b
      · subst y
        have hl : i < ρ.length := by
          have := List.getElem?_eq_some_iff.mp hb; obtain ⟨w, _⟩ := this; simpa using w
        rw [List.getElem?_set_self hl] at hb
        cases hb
      · rw [List.getElem?_set_ne z] at ha qa
        rw [List.getElem?_set_ne y] at hb qb
        exact h.sep a b ds es p ha hb qa qb
  len := by rw [List.length_set, List.length_set, h.len]
/-- an owned list is frozen -/
theorem Hd.freeze (h : Hd K B F H ρ σ) {i : Nat} {ds : List D} (hi : ρ[i]? = some (.own ds)) :
    ∃ p vs, σ[i]? = some (some (.ref p)) ∧ B p = none ∧ F p = none ∧ H p = some (.lst vs) ∧ Dvs K F vs ds ∧ Hd K B (upd F p (.lst vs)) H (ρ.set i (.val (.lst ds))) σ := by
  obtain ⟨p, vs, h1, hb, h2, h3, h4⟩ := h.own i ds hi
  have ef : Ex F (upd F p (.lst vs)) := Ex.new h2
  have hl : i < ρ.length := (List.getElem?_eq_some_iff.mp hi).1
  refine ⟨p, vs, h1, hb, h2, h3, h4, ⟨fun a o q => ?_, fun j d q => ?_, fun j es q => ?_, fun a b xs ys q ha hb' qa qb => ?_, by rw [List.length_set]; exact h.len⟩⟩
  · by_cases z : a = p
    · subst z; rw [upd_same] at q; cases q; exact h3
    · rw [upd_ne z] at q; exact h.fh a o q
  · by_cases z : i = j
    · subst z
      rw [List.getElem?_set_self hl] at q
      cases q
      exact ⟨_, h1, .lst (.inl (.inl upd_same)) (h4.mono ef)⟩
    · rw [List.getElem?_set_ne z] at q
      obtain ⟨v, e1, e2⟩ := h.val j d q
      exact ⟨v, e1, e2.mono ef⟩
  · by_cases z : i = j
    · subst z
      rw [List.getElem?_set_self hl] at q
      cases q
    · rw [List.getElem?_set_ne z] at q
      obtain ⟨p', ws, e1, e2, e3, e4, e5⟩ := h.own j es q
      have ne : p' ≠ p := fun e => by
        subst e
        exact z (h.sep i j ds es p' hi q h1 e1)
      exact ⟨p', ws, e1, e2, by rw [upd_ne ne]; exact e3, e4, e5.mono ef⟩
  · by_cases z : i = a
    · subst z
      rw [List.getElem?_set_self hl] at ha
      cases ha
    · by_cases y : i = b
      · subst y
        rw [List.getElem?_set_self hl] at hb'
        cases hb'
      · rw [List.getElem?_set_ne z] at ha
        rw [List.getElem?_set_ne y] at hb'
        exact h.sep a b xs ys q ha hb' qa qb
/-- an owned list is written anew -/
theorem Hd.write (h : Hd K B F H ρ σ) {i : Nat} {ds es : List D} {p : Addr} {ws : List V} (hi : ρ[i]? = some (.own ds)) (hp : σ[i]? = some (some (.ref p))) (hF : F p = none) (hw : Dvs K F ws es) :
    Hd K B F (upd H p (.lst ws)) (ρ.set i (.own es)) σ := by
  obtain ⟨p0, vs, h1, hb, h2, h3, h4⟩ := h.own i ds hi
  have e0 : p0 = p := by rw [hp] at h1; cases h1; rfl
  subst e0
  have hl : i < ρ.length := (List.getElem?_eq_some_iff.mp hi).1
  refine ⟨fun a o q => ?_, fun j d q => ?_, fun j xs q => ?_, fun a b xs ys q ha hb' qa qb => ?_, by rw [List.length_set]; exact h.len⟩
  · rw [upd_ne (ne_of_none q hF)]; exact h.fh a o q
  · by_cases z : i = j
    · subst z
      rw [List.getElem?_set_self hl] at q
      cases q
    · rw [List.getElem?_set_ne z] at q
      exact h.val j d q
  · by_cases z : i = j
    · subst z
      rw [List.getElem?_set_self hl] at q
      cases q
      exact ⟨p0, ws, hp, hb, hF, upd_same, hw⟩
    · rw [List.getElem?_set_ne z] at q
      obtain ⟨p', us, e1, e2, e3, e4, e5⟩ := h.own j xs q
      have ne : p' ≠ p0 := fun e => by
        subst e
        exact z (h.sep i j ds xs p' hi q hp e1)
      exact ⟨p', us, e1, e2, e3, by rw [upd_ne ne]; exact e4, e5⟩
  · by_cases z : i = a
    · by_cases y : i = b
      · rw [← z, ← y]
      · subst z
        rw [List.getElem?_set_ne y] at hb'
        exact h.sep i b ds ys q hi hb' qa qb
    · by_cases y : i = b
      · subst y
        rw [List.getElem?_set_ne z] at ha
        exact h.sep a i xs ds q ha hi qa qb
      · rw [List.getElem?_set_ne z] at ha
        rw [List.getElem?_set_ne y] at hb'
        exact h.sep a b xs ys q ha hb' qa qb
end
end Yp

namespace Yp
open PySem PySem.Spec PyProof.Rows L2

/-- the places where one piece of text may run: the def's frame, or a comprehension's block in it -/
structure Fam (K : PySem.W.Frag) : Type 1 where
  ι : Type
  X : ι → Cx
  hK : ∀ j, (X j).K = K
abbrev Fam.one (X : Cx) : Fam X.K := ⟨Unit, fun _ => X, fun _ => rfl⟩
abbrev Fam.blk {K : PySem.W.Frag} (X : Fam K) (scope : Scope) : Fam K :=
  ⟨X.ι × Shared × Hp × Addr × List (Str × Addr) × List Addr, fun j => (X.X j.1).blk j.2.1 j.2.2.1 scope (compEnvC scope j.2.2.2.2.1 j.2.2.2.1 (X.X j.1).env) j.2.2.2.2.2, fun j => X.hK j.1⟩

section
variable {K : PySem.W.Frag} (X : Fam K)
def WE (e : Expr) : TE := fun σ H Q => ∃ t, (∀ j, PE (X.X j) e t) ∧ t σ H Q
def WT (e : Expr) : TT := fun σ H Q => ∃ t, (∀ j, PT (X.X j) e t) ∧ t σ H Q
def WA (e : List Expr) : TA := fun σ H Q => ∃ t, (∀ j, PA (X.X j) e t) ∧ t σ H Q
def WS (e : Stmt) : TS := fun D σ H => ∃ t, (∀ j, PS (X.X j) e t) ∧ t D σ H
def WSs (e : List Stmt) : TS := fun D σ H => ∃ t, (∀ j, PSs (X.X j) e t) ∧ t D σ H
def WG (e : Expr) : TG := fun v σ H Q => ∃ t, (∀ j, PG (X.X j) e t) ∧ t v σ H Q
def WGs (e : List Expr) : TGs := fun v σ H Q => ∃ t, (∀ j, PGs (X.X j) e t) ∧ t v σ H Q
def WI (tg iter : Expr) : TI := fun σ H R => ∃ t, (∀ j, PI (X.X j) tg iter t) ∧ t σ H R
variable {X}
theorem pe_w {e : Expr} (j : X.ι) : PE (X.X j) e (WE X e) := ⟨fun pins s σ H Q I ⟨t, h, q⟩ => (h j).run pins s σ H Q I q⟩
theorem pt_w {e : Expr} (j : X.ι) : PT (X.X j) e (WT X e) := ⟨fun pins s σ H Q I ⟨t, h, q⟩ => (h j).run pins s σ H Q I q⟩
theorem pa_w {e : List Expr} (j : X.ι) : PA (X.X j) e (WA X e) := ⟨fun pos pins s σ H Q I ⟨t, h, q⟩ => (h j).run pos pins s σ H Q I q⟩
theorem ps_w {e : Stmt} (j : X.ι) : PS (X.X j) e (WS X e) := ⟨fun pins s σ H D I ⟨t, h, q⟩ => (h j).run pins s σ H D I q⟩
theorem pss_w {e : List Stmt} (j : X.ι) : PSs (X.X j) e (WSs X e) := ⟨fun pins s σ H D I ⟨t, h, q⟩ => (h j).run pins s σ H D I q⟩
theorem pg_w {e : Expr} (j : X.ι) : PG (X.X j) e (WG X e) := ⟨fun pins s σ H v u Q I r ⟨t, h, q⟩ => (h j).run pins s σ H v u Q I r q⟩
theorem pgs_w {e : List Expr} (j : X.ι) : PGs (X.X j) e (WGs X e) := ⟨fun pins s σ H v u Q I r ⟨t, h, q⟩ => (h j).run pins s σ H v u Q I r q⟩
theorem pi_w {tg e : Expr} (j : X.ι) : PI (X.X j) tg e (WI X tg e) := ⟨fun pins s σ H R I ⟨t, h, q⟩ => (h j).run pins s σ H R I q⟩
end

section
variable {K : PySem.W.Frag}
/-! ### what a piece of text comes to, in data -/
def DE (X : Fam K) (e : Expr) (ρ : List Sl) (d : D) : Prop := ∀ B F H σ (Q : VK), Hd K B F H ρ σ → (∀ v F' H', Stp F H F' H' → Dv K F' v d → Q v H') → WE X e σ H Q
def DT (X : Fam K) (e : Expr) (ρ : List Sl) (b : Bool) : Prop := ∀ B F H σ (Q : Bool → Hp → Prop), Hd K B F H ρ σ → (∀ F' H', Stp F H F' H' → Q b H') → WT X e σ H Q
def DA (X : Fam K) (e : List Expr) (ρ : List Sl) (ds : List D) : Prop := ∀ B F H σ (Q : List V → Hp → Prop), Hd K B F H ρ σ → (∀ vs F' H', Stp F H F' H' → Dvs K F' vs ds → Q vs H') → WA X e σ H Q
/-- a new list of one's own -/
def DL (X : Fam K) (e : Expr) (ρ : List Sl) (ds : List D) : Prop := ∀ B F H σ (Q : VK), Hd K B F H ρ σ → (∀ p vs F' H', Stp F H F' H' → H p = none → F' p = none → H' p = some (.lst vs) → Dvs K F' vs ds → Q (.ref p) H') → WE X e σ H Q

variable {X : Fam K} {ρ : List Sl} {a b c e : Expr} {da db dc d : D} {pos : Pos}
theorem DL.de {ds : List D} (h : DL X e ρ ds) : DE X e ρ (.lst ds) := fun B F H σ Q hd q => h B F H σ Q hd fun p vs F' H' s hp hf hH hv =>
  q _ (upd F' p (.lst vs)) H' ⟨s.ff.trans (Ex.new hf), fun a o z => by
    by_cases y : a = p
    · subst y; rw [upd_same] at z; cases z; exact hH
    · rw [upd_ne y] at z; exact s.fh a o z, s.hh, fun a o z => by
    by_cases y : a = p
    · subst y; exact .inr hp
    · rw [upd_ne y] at z; exact s.nw a o z⟩ (.lst (.inl (.inl upd_same)) (hv.mono (Ex.new hf)))
theorem DE.is {d' : D} (h : DE X e ρ d) (q : d = d') : DE X e ρ d' := q ▸ h
theorem DT.is {b b' : Bool} (h : DT X e ρ b) (q : b = b') : DT X e ρ b' := q ▸ h
theorem DL.is {b b' : List D} (h : DL X e ρ b) (q : b = b') : DL X e ρ b' := q ▸ h
theorem DA.is {b b' : List D} {e : List Expr} (h : DA X e ρ b) (q : b = b') : DA X e ρ b' := q ▸ h

/-! names, constants -/
theorem de_var (i : Nat) {x : Str} (hi : ρ[i]? = some (.val d)) (hN : ∀ j, (X.X j).N[i]? = some x := by intro _; rfl)
    (hv : ∀ j, Vis (X.X j).env.scope x := by first | exact fun _ => Or.inl rfl | exact fun _ => Or.inr (Or.inl rfl) | exact fun _ => Or.inr (Or.inr rfl)) (hd : (x == ("__debug__" : Str)) = false := by decide)
    (hcd : (x == ("__classdict__" : Str)) = false := by decide) : DE X (.Name x pos) ρ d := fun B F H σ Q hh q => by
  obtain ⟨v, h1, h2⟩ := hh.val i d hi
  exact ⟨tVar i, fun j => pe_var (hN j) (hv j) hd hcd, v, h1, q v F H (Stp.refl hh.fh) h2⟩
theorem de_int {i : Int} {j : Nat} : DE X (.Constant (.int i) j pos) ρ (.int i) := fun B F H σ Q hh q => ⟨_, fun _ => pe_int, q _ F H (Stp.refl hh.fh) (.int i)⟩
theorem de_bl {i : Bool} {j : Nat} : DE X (.Constant (.bool i) j pos) ρ (.bl i) := fun B F H σ Q hh q => ⟨_, fun _ => pe_bl, q _ F H (Stp.refl hh.fh) (.bl i)⟩
theorem de_str {i : Str} {j : Nat} : DE X (.Constant (.str i) j pos) ρ (.str i) := fun B F H σ Q hh q => ⟨_, fun _ => pe_str, q _ F H (Stp.refl hh.fh) (.str i)⟩
theorem de_non {j : Nat} : DE X (.Constant .none j pos) ρ .non := fun B F H σ Q hh q => ⟨_, fun _ => pe_non, q _ F H (Stp.refl hh.fh) .non⟩
/-- a constant of the module without parts -/
theorem de_glob {x : Str} {v : V} {u : Value} (hm : ∀ j, (X.X j).mg x = some u) (r : RelV v u) (hv : ∀ F, Dv K F v d) (hg : ∀ j, Gl (X.X j) x := by intro _; rfl) (hd : (x == ("__debug__" : Str)) = false := by decide) : DE X (.Name x pos) ρ d :=
  fun B F H σ Q hh q => ⟨_, fun j => pe_glob (hg j) (hm j) r hd, q _ F H (Stp.refl hh.fh) (hv F)⟩

/-! a look at an owned list -/
theorem de_borrow (i : Nat) {ds : List D} (hi : ρ[i]? = some (.own ds)) (hf : d.flat = true) (h : DE X e (ρ.set i (.val (.lst ds))) d) : DE X e ρ d := fun B F H σ Q hh q => by
  obtain ⟨p, vs, h1, hb, h2, h3, h4, hz⟩ := hh.freeze hi
  exact h B _ H σ Q hz fun v F' H' s hv => q v F H' ⟨Ex.refl F, hh.fh.trans s.hh, s.hh, fun _ _ z => .inl z⟩ (hv.flat hf)
theorem dt_borrow (i : Nat) {ds : List D} {b : Bool} (hi : ρ[i]? = some (.own ds)) (h : DT X e (ρ.set i (.val (.lst ds))) b) : DT X e ρ b := fun B F H σ Q hh q => by
  obtain ⟨p, vs, h1, hb, h2, h3, h4, hz⟩ := hh.freeze hi
  exact h B _ H σ Q hz fun F' H' s => q F H' ⟨Ex.refl F, hh.fh.trans s.hh, s.hh, fun _ _ z => .inl z⟩

/-! operators -/
def OpD (X : Fam K) (op : Operator) (da db d : D) : Prop := ∃ r : R2, (∀ j, OpR (X.X j) (binaryOp op) r) ∧ ∀ F H x y (Q : VK), Ex F H → Dv K F x da → Dv K F y db → (∀ v F' H', Stp F H F' H' → Dv K F' v d → Q v H') → r x y H Q
def CmD (X : Fam K) (op : CmpOp) (da db : D) (k : Bool) : Prop := ∃ r : R2, (∀ j, OpR (X.X j) (compareOp op) r) ∧ ∀ F H x y (Q : VK), Ex F H → Dv K F x da → Dv K F y db → (∀ F' H', Stp F H F' H' → Q (.bl k) H') → r x y H Q
theorem de_bin {op : Operator} (ha : DE X a ρ da) (hb : DE X b ρ db) (ho : OpD X op da db d) : DE X (.BinOp a op b pos) ρ d := fun B F H σ Q hh q => by
  obtain ⟨r, h1, h2⟩ := ho
  refine ⟨tOp r (WE X a) (WE X b), fun j => pe_op (h1 j) (pe_w j) (pe_w j), ?_⟩
  refine ha B F H σ _ hh fun x F1 H1 s1 v1 => hb B F1 H1 σ _ (hh.step s1) fun y F2 H2 s2 v2 => ?_
  exact h2 F2 H2 x y Q s2.fh (v1.mono s2.ff) v2 fun v F' H' s3 v3 => q v F' H' ((s1.trans s2).trans s3) v3
theorem opd_I {op : Operator} {C : Int → Int → Prop} {g : Int → Int → Int} (h : ∀ Y : Cx, OpR Y (binaryOp op) (rI C fun i j => .int (g i j))) {i j : Int} (hc : C i j) : OpD X op (.int i) (.int j) (.int (g i j)) :=
  ⟨_, fun j => h _, fun F H x y Q e hx hy q => by cases hx; cases hy; exact ⟨i, j, rfl, rfl, hc, q _ F H (Stp.refl e) (.int _)⟩⟩
theorem opd_I0 {op : Operator} {g : Int → Int → Int} (h : ∀ Y : Cx, OpR Y (binaryOp op) (rI0 fun i j => .int (g i j))) {i j : Int} : OpD X op (.int i) (.int j) (.int (g i j)) :=
  ⟨_, fun j => h _, fun F H x y Q e hx hy q => by cases hx; cases hy; exact ⟨i, j, rfl, rfl, q _ F H (Stp.refl e) (.int _)⟩⟩
theorem opd_add {i j : Int} : OpD X .Add (.int i) (.int j) (.int (i + j)) := opd_I0 fun _ => op_add
theorem opd_sub {i j : Int} : OpD X .Sub (.int i) (.int j) (.int (i - j)) := opd_I0 fun _ => op_sub
theorem opd_mul {i j : Int} (h : CMul i j) : OpD X .Mult (.int i) (.int j) (.int (i * j)) := opd_I (fun _ => op_mul) h
theorem opd_div {i j : Int} (h : CDiv i j) : OpD X .FloorDiv (.int i) (.int j) (.int (i / j)) := opd_I (fun _ => op_fdiv) h
theorem opd_mod {i j : Int} (h : 0 < j) : OpD X .Mod (.int i) (.int j) (.int (i % j)) := opd_I (C := fun _ j => 0 < j) (fun _ => op_mod) h
theorem opd_pow {i j : Int} (h : CPow i j) : OpD X .Pow (.int i) (.int j) (.int (i ^ j.toNat)) := opd_I (fun _ => op_pow) h
theorem opd_addS {i j : Str} (h : i.length + j.length ≤ sizeLine) : OpD X .Add (.str i) (.str j) (.str (i ++ j)) :=
  ⟨_, fun _ => op_add_str, fun F H x y Q e hx hy q => by cases hx; cases hy; exact ⟨i, j, rfl, rfl, h, q _ F H (Stp.refl e) (.str _)⟩⟩
theorem de_neg {i : Int} (ha : DE X a ρ (.int i)) : DE X (.UnaryOp .USub a pos) ρ (.int (-i)) := fun B F H σ Q hh q =>
  ⟨tUn _ (WE X a), fun j => pe_un un_neg (pe_w j), ha B F H σ _ hh fun x F1 H1 s1 v1 => by cases v1; exact ⟨i, rfl, q _ F1 H1 s1 (.int _)⟩⟩

/-! comparisons -/
theorem de_cmp {op : CmpOp} {k : Bool} (ha : DE X a ρ da) (hb : DE X b ρ db) (ho : CmD X op da db k) (hm : behindInMarks op b = false := by first | exact nomark _ | rfl) : DE X (.Compare a [op] [b] pos) ρ (.bl k) := fun B F H σ Q hh q => by
  obtain ⟨r, h1, h2⟩ := ho
  refine ⟨tOp r (WE X a) (WE X b), fun j => pe_cmpR (h1 j) (pe_w j) (pe_w j) hm, ?_⟩
  refine ha B F H σ _ hh fun x F1 H1 s1 v1 => hb B F1 H1 σ _ (hh.step s1) fun y F2 H2 s2 v2 => ?_
  exact h2 F2 H2 x y Q s2.fh (v1.mono s2.ff) v2 fun F' H' s3 => q _ F' H' ((s1.trans s2).trans s3) (.bl k)
theorem dt_cmp {op : CmpOp} {k : Bool} (ha : DE X a ρ da) (hb : DE X b ρ db) (ho : CmD X op da db k) (hm : behindInMarks op b = false := by first | exact nomark _ | rfl) : DT X (.Compare a [op] [b] pos) ρ k := fun B F H σ Q hh q => by
  obtain ⟨r, h1, h2⟩ := ho
  refine ⟨tTest (tOp r (WE X a) (WE X b)), fun j => pt_cmpR (h1 j) (pe_w j) (pe_w j) hm, ?_⟩
  refine ha B F H σ _ hh fun x F1 H1 s1 v1 => hb B F1 H1 σ _ (hh.step s1) fun y F2 H2 s2 v2 => ?_
  exact h2 F2 H2 x y _ s2.fh (v1.mono s2.ff) v2 fun F' H' s3 => ⟨k, rfl, q F' H' ((s1.trans s2).trans s3)⟩
theorem de_chain {op op' : CmpOp} {k k' : Bool} (ha : DE X a ρ da) (hb : DE X b ρ db) (ho : CmD X op da db k) (hc : k = true → DE X c ρ dc) (ho' : k = true → CmD X op' db dc k')
    (hm : lastMarks [op, op'] [b, c] = false := by with_unfolding_all rfl) : DE X (.Compare a [op, op'] [b, c] pos) ρ (.bl (k && k')) := fun B F H σ Q hh q => by
  obtain ⟨r, h1, h2⟩ := ho
  cases k with
  | true =>
    obtain ⟨r', h1', h2'⟩ := ho' rfl
    refine ⟨tChain r r' (WE X a) (WE X b) (WE X c), fun j => pe_chain (h1 j) (h1' j) (pe_w j) (pe_w j) (pe_w j) hm, ?_⟩
    refine ha B F H σ _ hh fun x F1 H1 s1 v1 => hb B F1 H1 σ _ (hh.step s1) fun y F2 H2 s2 v2 => ?_
    refine h2 F2 H2 x y _ s2.fh (v1.mono s2.ff) v2 fun F3 H3 s3 => ⟨true, rfl, iteT ?_⟩
    refine hc rfl B F3 H3 σ _ ((hh.step (s1.trans s2)).step s3) fun z F4 H4 s4 v4 => ?_
    exact h2' F4 H4 y z Q s4.fh (v2.mono (s3.ff.trans s4.ff)) v4 fun F' H' s5 => q _ F' H' ((((s1.trans s2).trans s3).trans s4).trans s5) (.bl _)
  | false =>
    refine ⟨tChain r (fun _ _ _ _ => False) (WE X a) (WE X b) (WE X c), fun j => pe_chain (h1 j) (fun _ _ _ _ _ _ _ _ _ _ _ _ h => h.elim) (pe_w j) (pe_w j) (pe_w j) hm, ?_⟩
    refine ha B F H σ _ hh fun x F1 H1 s1 v1 => hb B F1 H1 σ _ (hh.step s1) fun y F2 H2 s2 v2 => ?_
    exact h2 F2 H2 x y _ s2.fh (v1.mono s2.ff) v2 fun F3 H3 s3 => ⟨false, rfl, iteF (q _ F3 H3 ((s1.trans s2).trans s3) (.bl _))⟩
theorem dt_chain {op op' : CmpOp} {k k' : Bool} (ha : DE X a ρ da) (hb : DE X b ρ db) (ho : CmD X op da db k) (hc : k = true → DE X c ρ dc) (ho' : k = true → CmD X op' db dc k')
    (hm : lastMarks [op, op'] [b, c] = false := by with_unfolding_all rfl) : DT X (.Compare a [op, op'] [b, c] pos) ρ (k && k') := fun B F H σ Q hh q => by
  obtain ⟨r, h1, h2⟩ := ho
  cases k with
  | true =>
    obtain ⟨r', h1', h2'⟩ := ho' rfl
    refine ⟨tTest (tChain r r' (WE X a) (WE X b) (WE X c)), fun j => pt_chain (h1 j) (h1' j) (pe_w j) (pe_w j) (pe_w j) hm, ?_⟩
    refine ha B F H σ _ hh fun x F1 H1 s1 v1 => hb B F1 H1 σ _ (hh.step s1) fun y F2 H2 s2 v2 => ?_
    refine h2 F2 H2 x y _ s2.fh (v1.mono s2.ff) v2 fun F3 H3 s3 => ⟨true, rfl, iteT ?_⟩
    refine hc rfl B F3 H3 σ _ ((hh.step (s1.trans s2)).step s3) fun z F4 H4 s4 v4 => ?_
    exact h2' F4 H4 y z _ s4.fh (v2.mono (s3.ff.trans s4.ff)) v4 fun F' H' s5 => ⟨_, rfl, q F' H' ((((s1.trans s2).trans s3).trans s4).trans s5)⟩
  | false =>
    refine ⟨tTest (tChain r (fun _ _ _ _ => False) (WE X a) (WE X b) (WE X c)), fun j => pt_chain (h1 j) (fun _ _ _ _ _ _ _ _ _ _ _ _ h => h.elim) (pe_w j) (pe_w j) (pe_w j) hm, ?_⟩
    refine ha B F H σ _ hh fun x F1 H1 s1 v1 => hb B F1 H1 σ _ (hh.step s1) fun y F2 H2 s2 v2 => ?_
    exact h2 F2 H2 x y _ s2.fh (v1.mono s2.ff) v2 fun F3 H3 s3 => ⟨false, rfl, iteF ⟨_, rfl, q F3 H3 ((s1.trans s2).trans s3)⟩⟩
theorem cmd_I {op : CmpOp} {g : Int → Int → Bool} (h : ∀ Y : Cx, OpR Y (compareOp op) (rI0 fun i j => .bl (g i j))) {i j : Int} : CmD X op (.int i) (.int j) (g i j) :=
  ⟨_, fun j => h _, fun F H x y Q e hx hy q => by cases hx; cases hy; exact ⟨i, j, rfl, rfl, q F H (Stp.refl e)⟩⟩
theorem cm_lt {i j : Int} : CmD X .Lt (.int i) (.int j) (decide (i < j)) := cmd_I fun _ => op_lt
theorem cm_le {i j : Int} : CmD X .LtE (.int i) (.int j) (decide (i ≤ j)) := cmd_I fun _ => op_le
theorem cm_gt {i j : Int} : CmD X .Gt (.int i) (.int j) (decide (j < i)) := cmd_I fun _ => op_gt
theorem cm_ge {i j : Int} : CmD X .GtE (.int i) (.int j) (decide (j ≤ i)) := cmd_I fun _ => op_ge
theorem cm_eqI {i j : Int} : CmD X .Eq (.int i) (.int j) (decide (i = j)) :=
  ⟨_, fun _ => op_eq, fun F H x y Q e hx hy q => by cases hx; cases hy; exact ⟨rfl, by rw [show decide (V.int i = V.int j) = decide (i = j) from by simp]; exact q F H (Stp.refl e)⟩⟩
theorem cm_neI {i j : Int} : CmD X .NotEq (.int i) (.int j) (!decide (i = j)) :=
  ⟨_, fun _ => op_ne, fun F H x y Q e hx hy q => by cases hx; cases hy; exact ⟨rfl, by rw [show decide (V.int i = V.int j) = decide (i = j) from by simp]; exact q F H (Stp.refl e)⟩⟩
theorem cm_eqS {i j : Str} : CmD X .Eq (.str i) (.str j) (decide (i = j)) :=
  ⟨_, fun _ => op_eq, fun F H x y Q e hx hy q => by cases hx; cases hy; exact ⟨rfl, by rw [show decide (V.str i = V.str j) = decide (i = j) from by simp]; exact q F H (Stp.refl e)⟩⟩
theorem cm_neS {i j : Str} : CmD X .NotEq (.str i) (.str j) (!decide (i = j)) :=
  ⟨_, fun _ => op_ne, fun F H x y Q e hx hy q => by cases hx; cases hy; exact ⟨rfl, by rw [show decide (V.str i = V.str j) = decide (i = j) from by simp]; exact q F H (Stp.refl e)⟩⟩
theorem cm_eqB {i j : Bool} : CmD X .Eq (.bl i) (.bl j) (decide (i = j)) :=
  ⟨_, fun _ => op_eq, fun F H x y Q e hx hy q => by cases hx; cases hy; exact ⟨rfl, by rw [show decide (V.bl i = V.bl j) = decide (i = j) from by simp]; exact q F H (Stp.refl e)⟩⟩
theorem cm_leS {i j : Str} : CmD X .LtE (.str i) (.str j) (!decide (j.cps.toList < i.cps.toList)) :=
  ⟨_, fun _ => op_le_str, fun F H x y Q e hx hy q => by cases hx; cases hy; exact ⟨i, j, rfl, rfl, q F H (Stp.refl e)⟩⟩

/-! and, or, not, if -/
theorem dt_val {k : Bool} (h : DE X e ρ (.bl k)) (he : ∀ j whole, isTrue e (X.X j).env whole = (do let v ← whole; standAt e.pos; holding [v] (truthy v)) := by intro _ _; rfl) : DT X e ρ k := fun B F H σ Q hh q =>
  ⟨tB (WE X e), fun j => pt_val (pe_w j) (he j), h B F H σ _ hh fun v F' H' s hv => by cases hv; exact ⟨k, rfl, q F' H' s⟩⟩
theorem dt_not {k : Bool} (h : DT X a ρ k) : DT X (.UnaryOp .Not a pos) ρ (!k) := fun B F H σ Q hh q => ⟨tNot (WT X a), fun j => pt_not (pt_w j), h B F H σ _ hh fun F' H' s => q F' H' s⟩
theorem de_not {k : Bool} (h : DE X a ρ (.bl k)) : DE X (.UnaryOp .Not a pos) ρ (.bl (!k)) := fun B F H σ Q hh q => ⟨tNotV (WE X a), fun j => pe_not (pe_w j), h B F H σ _ hh fun v F' H' s hv => by cases hv; exact ⟨k, rfl, q _ F' H' s (.bl _)⟩⟩
theorem de_one {op : BoolOp} (h : DE X a ρ d) : DE X (.BoolOp op [a] pos) ρ d := fun B F H σ Q hh q => ⟨WE X a, fun j => pe_one (pe_w j), h B F H σ _ hh q⟩
theorem de_and {k k' : Bool} {rest : List Expr} (h : DE X a ρ (.bl k)) (h2 : k = true → DE X (.BoolOp .And (b :: rest) pos) ρ (.bl k')) : DE X (.BoolOp .And (a :: b :: rest) pos) ρ (.bl (k && k')) := fun B F H σ Q hh q =>
  ⟨tAndV (WE X a) (WE X _), fun j => pe_and (pe_w j) (pe_w j), h B F H σ _ hh fun v F' H' s hv => by
    cases hv
    refine ⟨k, rfl, ?_⟩
    cases k with
    | true => exact iteT (h2 rfl B F' H' σ _ (hh.step s) fun v F2 H2 s2 hv => q v F2 H2 (s.trans s2) hv)
    | false => exact iteF (q _ F' H' s (.bl _))⟩
theorem de_or {k k' : Bool} {rest : List Expr} (h : DE X a ρ (.bl k)) (h2 : k = false → DE X (.BoolOp .Or (b :: rest) pos) ρ (.bl k')) : DE X (.BoolOp .Or (a :: b :: rest) pos) ρ (.bl (k || k')) := fun B F H σ Q hh q =>
  ⟨tOrV (WE X a) (WE X _), fun j => pe_or (pe_w j) (pe_w j), h B F H σ _ hh fun v F' H' s hv => by
    cases hv
    refine ⟨k, rfl, ?_⟩
    cases k with
    | true => exact iteT (q _ F' H' s (.bl _))
    | false => exact iteF (h2 rfl B F' H' σ _ (hh.step s) fun v F2 H2 s2 hv => q v F2 H2 (s.trans s2) hv)⟩
/-- a chain of and | or as a test -/
def DW (X : Fam K) (e : Expr) (ρ : List Sl) (b : Bool) : Prop := ∀ B F H σ (Q : Bool → Hp → Prop), Hd K B F H ρ σ → (∀ F' H', Stp F H F' H' → Q b H') → ∃ t, (∀ j, PW (X.X j) e t) ∧ t σ H Q
def WW (X : Fam K) (e : Expr) : TT := fun σ H Q => ∃ t, (∀ j, PW (X.X j) e t) ∧ t σ H Q
theorem pw_w (j : X.ι) : PW (X.X j) e (WW X e) := ⟨fun wh pins s σ H Q I ⟨t, h, q⟩ => (h j).run wh pins s σ H Q I q⟩
theorem DW.dt {k : Bool} (h : DW X e ρ k) : DT X e ρ k := fun B F H σ Q hh q => by
  obtain ⟨t, h1, h2⟩ := h B F H σ Q hh q
  exact ⟨t, fun j => (h1 j).pt, h2⟩
theorem dw_and1 {k : Bool} (h : DT X a ρ k) : DW X (.BoolOp .And [a] pos) ρ k := fun B F H σ Q hh q => ⟨WT X a, fun j => pw_and1 (pt_w j), h B F H σ Q hh q⟩
theorem dw_or1 {k : Bool} (h : DT X a ρ k) : DW X (.BoolOp .Or [a] pos) ρ k := fun B F H σ Q hh q => ⟨WT X a, fun j => pw_or1 (pt_w j), h B F H σ Q hh q⟩
theorem dw_and {k k' : Bool} {rest : List Expr} (h : DT X a ρ k) (h2 : k = true → DW X (.BoolOp .And (b :: rest) pos) ρ k') : DW X (.BoolOp .And (a :: b :: rest) pos) ρ (k && k') := fun B F H σ Q hh q =>
  ⟨tAnd (WT X a) (WW X _), fun j => pw_and (pt_w j) (pw_w j), h B F H σ _ hh fun F' H' s => by
    cases k with
    | true => exact iteT (h2 rfl B F' H' σ _ (hh.step s) fun F2 H2 s2 => q F2 H2 (s.trans s2))
    | false => exact iteF (q F' H' s)⟩
theorem dw_or {k k' : Bool} {rest : List Expr} (h : DT X a ρ k) (h2 : k = false → DW X (.BoolOp .Or (b :: rest) pos) ρ k') : DW X (.BoolOp .Or (a :: b :: rest) pos) ρ (k || k') := fun B F H σ Q hh q =>
  ⟨tOr (WT X a) (WW X _), fun j => pw_or (pt_w j) (pw_w j), h B F H σ _ hh fun F' H' s => by
    cases k with
    | true => exact iteT (q F' H' s)
    | false => exact iteF (h2 rfl B F' H' σ _ (hh.step s) fun F2 H2 s2 => q F2 H2 (s.trans s2))⟩
theorem de_ifExp {k : Bool} (h : DT X c ρ k) (h1 : k = true → DE X a ρ d) (h2 : k = false → DE X b ρ d) : DE X (.IfExp c a b pos) ρ d := fun B F H σ Q hh q =>
  ⟨tIf (WT X c) (WE X a) (WE X b), fun j => pe_ifExp (pt_w j) (pe_w j) (pe_w j), h B F H σ _ hh fun F' H' s => by
    cases k with
    | true => exact iteT (h1 rfl B F' H' σ _ (hh.step s) fun v F2 H2 s2 hv => q v F2 H2 (s.trans s2) hv)
    | false => exact iteF (h2 rfl B F' H' σ _ (hh.step s) fun v F2 H2 s2 hv => q v F2 H2 (s.trans s2) hv)⟩

/-! argument lists, displays -/
theorem da_nil : DA X [] ρ [] := fun B F H σ Q hh q => ⟨_, fun _ => pa_nil, q [] F H (Stp.refl hh.fh) .nil⟩
theorem da_cons {es : List Expr} {ds : List D} (h : DE X e ρ d) (hr : DA X es ρ ds) (hs : ∀ j, starEach (e :: es) (X.X j).env = (false, eval e (X.X j).env) :: starEach es (X.X j).env := by intro _; rfl) : DA X (e :: es) ρ (d :: ds) := fun B F H σ Q hh q =>
  ⟨tCons (WE X e) (WA X es), fun j => pa_cons (pe_w j) (pa_w j) (hs j), h B F H σ _ hh fun v F1 H1 s1 v1 => hr B F1 H1 σ _ (hh.step s1) fun vs F2 H2 s2 v2 => q (v :: vs) F2 H2 (s1.trans s2) (.cons (v1.mono s2.ff) v2)⟩
theorem small {n : Nat} (h : n ≤ 100000) : n ≤ sizeLine := Nat.le_trans h (by decide)
theorem small_lt {n : Nat} (h : n < 100000) : n < sizeLine := Nat.lt_of_lt_of_le h (by decide)
theorem de_tup {es : List Expr} {ds : List D} {k : Nat} (h : DA X es ρ ds) (hl : ds.length ≤ 100000 := by first | decide | simp) : DE X (.Tuple es k pos) ρ (.tup ds) := fun B F H σ Q hh q =>
  ⟨tTup (WA X es), fun j => pe_tup (pa_w j), h B F H σ _ hh fun vs F1 H1 s1 v1 => ⟨small (by rw [v1.length]; exact hl), fun p hp =>
    q _ (upd F1 p (.tup vs)) _ (s1.trans (Stp.new s1.fh hp)) (.tup (.inl (.inl upd_same)) (v1.mono (Ex.new (s1.fh.back hp))))⟩⟩
theorem dl_lst {es : List Expr} {ds : List D} (h : DA X es ρ ds) (hl : ds.length ≤ 100000 := by first | decide | simp) : DL X (.List es pos) ρ ds := fun B F H σ Q hh q =>
  ⟨tLst (WA X es), fun j => pe_lst (pa_w j), h B F H σ _ hh fun vs F1 H1 s1 v1 => ⟨small (by rw [v1.length]; exact hl), fun p hp =>
    q p vs F1 _ (s1.trans (Stp.own s1.fh hp)) (s1.hh.back hp) (s1.fh.back hp) upd_same v1⟩⟩

/-! calls of built-ins, by values -/
def CaD (X : Fam K) (f : Value) (ds : List D) (d : D) : Prop := ∃ r : List V → Hp → VK → Prop, (∀ j, CallR (X.X j) f r) ∧ ∀ F H xs (Q : VK), Ex F H → Dvs K F xs ds → (∀ v F' H', Stp F H F' H' → Dv K F' v d → Q v H') → r xs H Q
def CaL (X : Fam K) (f : Value) (ds es : List D) : Prop := ∃ r : List V → Hp → VK → Prop, (∀ j, CallR (X.X j) f r) ∧ ∀ F H xs (Q : VK), Ex F H → Dvs K F xs ds → (∀ p vs F' H', Stp F H F' H' → H p = none → F' p = none → H' p = some (.lst vs) → Dvs K F' vs es → Q (.ref p) H') → r xs H Q
theorem de_callB {id : String} {x : Str} {es : List Expr} {ds : List D} {p : Pos} (ho : CaD X (.builtin id) ds d) (hm : ∀ j, (X.X j).mg x = none) (hv : bootBuiltins x = some (.builtin id)) (ha : DA X (e :: es) ρ ds) (hg : ∀ j, Gl (X.X j) x := by intro _; rfl)
    (hn : x ≠ "__name__" := by decide) (hdb : (x == ("__debug__" : Str)) = false := by decide) (he : ∀ j, starEach (e :: es) (X.X j).env = (false, eval e (X.X j).env) :: starEach es (X.X j).env := by intro _; rfl) (hpl : ∀ j, (backTo pos (starEach es (X.X j).env)).any (·.1) = false := by intro _; rfl) : DE X (.Call (.Name x p) (e :: es) [] pos) ρ d := fun B F H σ Q hh q => by
  obtain ⟨r, h1, h2⟩ := ho
  exact ⟨tCB r (WA X _), fun j => pe_callB (h1 j) (hg j) (hm j) hv (pa_w j) hn hdb (he j) (hpl j), ha B F H σ _ hh fun vs F1 H1 s1 v1 => h2 F1 H1 vs Q s1.fh v1 fun v F2 H2 s2 v2 => q v F2 H2 (s1.trans s2) v2⟩
theorem de_callTy {T : String} {x : Str} {es : List Expr} {ds : List D} {p : Pos} (ho : CaD X (.type T) ds d) (hm : ∀ j, (X.X j).mg x = none) (hv : bootBuiltins x = some (.type T)) (ha : DA X (e :: es) ρ ds) (hg : ∀ j, Gl (X.X j) x := by intro _; rfl)
    (hn : x ≠ "__name__" := by decide) (hdb : (x == ("__debug__" : Str)) = false := by decide) (he : ∀ j, starEach (e :: es) (X.X j).env = (false, eval e (X.X j).env) :: starEach es (X.X j).env := by intro _; rfl) (hpl : ∀ j, (backTo pos (starEach es (X.X j).env)).any (·.1) = false := by intro _; rfl) : DE X (.Call (.Name x p) (e :: es) [] pos) ρ d := fun B F H σ Q hh q => by
  obtain ⟨r, h1, h2⟩ := ho
  exact ⟨tCB r (WA X _), fun j => pe_callTy (h1 j) (hg j) (hm j) hv (pa_w j) hn hdb (he j) (hpl j), ha B F H σ _ hh fun vs F1 H1 s1 v1 => h2 F1 H1 vs Q s1.fh v1 fun v F2 H2 s2 v2 => q v F2 H2 (s1.trans s2) v2⟩
theorem dl_callTy {T : String} {x : Str} {es : List Expr} {ds os : List D} {p : Pos} (ho : CaL X (.type T) ds os) (hm : ∀ j, (X.X j).mg x = none) (hv : bootBuiltins x = some (.type T)) (ha : DA X (e :: es) ρ ds) (hg : ∀ j, Gl (X.X j) x := by intro _; rfl)
    (hn : x ≠ "__name__" := by decide) (hdb : (x == ("__debug__" : Str)) = false := by decide) (he : ∀ j, starEach (e :: es) (X.X j).env = (false, eval e (X.X j).env) :: starEach es (X.X j).env := by intro _; rfl) (hpl : ∀ j, (backTo pos (starEach es (X.X j).env)).any (·.1) = false := by intro _; rfl) : DL X (.Call (.Name x p) (e :: es) [] pos) ρ os := fun B F H σ Q hh q => by
  obtain ⟨r, h1, h2⟩ := ho
  exact ⟨tCB r (WA X _), fun j => pe_callTy (h1 j) (hg j) (hm j) hv (pa_w j) hn hdb (he j) (hpl j), ha B F H σ _ hh fun vs F1 H1 s1 v1 => h2 F1 H1 vs Q s1.fh v1 fun p us F2 H2 s2 e1 e2 e3 v2 => q p us F2 H2 (s1.trans s2) (s1.hh.back e1) e2 e3 v2⟩
theorem Dvs.one {F : Hp} {xs : List V} (h : Dvs K F xs [d]) : ∃ x, xs = [x] ∧ Dv K F x d := by
  cases h with
  | cons h t => cases t; exact ⟨_, rfl, h⟩
theorem Dvs.two {F : Hp} {xs : List V} (h : Dvs K F xs [da, db]) : ∃ x y, xs = [x, y] ∧ Dv K F x da ∧ Dv K F y db := by
  cases h with
  | cons h t => obtain ⟨y, rfl, h2⟩ := t.one; exact ⟨_, _, rfl, h, h2⟩
theorem ca_abs {i : Int} : CaD X (.builtin "abs") [.int i] (.int (if i < 0 then -i else i)) := ⟨_, fun _ => call_abs, fun F H xs Q e hx q => by
  obtain ⟨x, rfl, h⟩ := hx.one
  cases h
  exact ⟨i, rfl, q _ F H (Stp.refl e) (.int _)⟩⟩
theorem ca_lenS {z : Str} (h : z.length ≤ sizeLine) : CaD X (.builtin "len") [.str z] (.int z.length) := ⟨_, fun _ => call_len_str, fun F H xs Q e hx q => by
  obtain ⟨x, rfl, h⟩ := hx.one
  cases h
  exact ⟨z, rfl, by assumption, q _ F H (Stp.refl e) (.int _)⟩⟩
theorem ca_lenL {ds : List D} : CaD X (.builtin "len") [.lst ds] (.int ds.length) := ⟨_, fun j => (X.hK j) ▸ call_len_seq, fun F H xs Q e hx q => by
  obtain ⟨x, rfl, h⟩ := hx.one
  cases h with
  | lst hs hv => exact ⟨_, _, rfl, .inl (e.sqL hs), by rw [hv.length]; exact q _ F H (Stp.refl e) (.int _)⟩⟩
theorem ca_lenT {ds : List D} : CaD X (.builtin "len") [.tup ds] (.int ds.length) := ⟨_, fun j => (X.hK j) ▸ call_len_seq, fun F H xs Q e hx q => by
  obtain ⟨x, rfl, h⟩ := hx.one
  cases h with
  | tup hs hv => exact ⟨_, _, rfl, .inr (e.sqT hs), by rw [hv.length]; exact q _ F H (Stp.refl e) (.int _)⟩⟩
theorem ca_intB {k : Bool} : CaD X (.type "int") [.bl k] (.int (if k then 1 else 0)) := ⟨_, fun _ => call_int1, fun F H xs Q e hx q => by
  obtain ⟨x, rfl, h⟩ := hx.one
  cases h
  exact .inr ⟨k, rfl, q _ F H (Stp.refl e) (.int _)⟩⟩
theorem ca_sum {ns : List Int} (hc : ∀ j, (X.X j).calm = true) : CaD X (.builtin "sum") [.lst (ns.map D.int)] (.int ns.sum) := ⟨_, fun j => (X.hK j) ▸ cr_sum (hc j), fun F H xs Q e hx q => by
  obtain ⟨x, rfl, h⟩ := hx.one
  cases h with
  | lst hs hv => exact ⟨_, ns, rfl, by rw [← hv.ints]; exact e.sqL hs, q _ F H (Stp.refl e) (.int _)⟩⟩
theorem ca_all {ns : List Bool} (hc : ∀ j, (X.X j).calm = true) : CaD X (.builtin "all") [.lst (ns.map D.bl)] (.bl (ns.all id)) := ⟨_, fun j => (X.hK j) ▸ cr_all (hc j), fun F H xs Q e hx q => by
  obtain ⟨x, rfl, h⟩ := hx.one
  cases h with
  | lst hs hv => exact ⟨_, ns, rfl, by rw [← hv.bls]; exact e.sqL hs, q _ F H (Stp.refl e) (.bl _)⟩⟩
theorem ca_any {ns : List Bool} (hc : ∀ j, (X.X j).calm = true) : CaD X (.builtin "any") [.lst (ns.map D.bl)] (.bl (ns.any id)) := ⟨_, fun j => (X.hK j) ▸ cr_any (hc j), fun F H xs Q e hx q => by
  obtain ⟨x, rfl, h⟩ := hx.one
  cases h with
  | lst hs hv => exact ⟨_, ns, rfl, by rw [← hv.bls]; exact e.sqL hs, q _ F H (Stp.refl e) (.bl _)⟩⟩
theorem ca_min2 {i k : Int} (hc : ∀ j, (X.X j).calm = true) : CaD X (.builtin "min") [.int i, .int k] (.int (if k < i then k else i)) := ⟨_, fun j => call_min2 (hc j), fun F H xs Q e hx q => by
  obtain ⟨x, y, rfl, h1, h2⟩ := hx.two
  cases h1; cases h2
  exact ⟨i, k, rfl, q _ F H (Stp.refl e) (.int _)⟩⟩
theorem ca_max2 {i k : Int} (hc : ∀ j, (X.X j).calm = true) : CaD X (.builtin "max") [.int i, .int k] (.int (if k > i then k else i)) := ⟨_, fun j => call_max2 (hc j), fun F H xs Q e hx q => by
  obtain ⟨x, y, rfl, h1, h2⟩ := hx.two
  cases h1; cases h2
  exact ⟨i, k, rfl, q _ F H (Stp.refl e) (.int _)⟩⟩
theorem ca_tupleL {ds : List D} : CaD X (.type "tuple") [.lst ds] (.tup ds) := ⟨_, fun j => (X.hK j) ▸ call_tuple_of, fun F H xs Q e hx q => by
  obtain ⟨x, rfl, h⟩ := hx.one
  cases h with
  | lst hs hv => exact ⟨_, _, rfl, .inl ⟨e.sqL hs, fun l hl => q _ (upd F l (.tup _)) _ (Stp.new e hl) (.tup (.inl (.inl upd_same)) (hv.mono (Ex.new (e.back hl))))⟩⟩⟩
theorem ca_tupleT {ds : List D} : CaD X (.type "tuple") [.tup ds] (.tup ds) := ⟨_, fun j => (X.hK j) ▸ call_tuple_of, fun F H xs Q e hx q => by
  obtain ⟨x, rfl, h⟩ := hx.one
  cases h with
  | tup hs hv => exact ⟨_, _, rfl, .inr ⟨e.sqT hs, q _ F H (Stp.refl e) (.tup hs hv)⟩⟩⟩
theorem cl_listL {ds : List D} : CaL X (.type "list") [.lst ds] ds := ⟨_, fun j => (X.hK j) ▸ call_list_of, fun F H xs Q e hx q => by
  obtain ⟨x, rfl, h⟩ := hx.one
  cases h with
  | lst hs hv => exact ⟨_, _, rfl, .inl (e.sqL hs), fun l hl => q l _ F _ (Stp.own e hl) hl (e.back hl) upd_same hv⟩⟩
theorem cl_listT {ds : List D} : CaL X (.type "list") [.tup ds] ds := ⟨_, fun j => (X.hK j) ▸ call_list_of, fun F H xs Q e hx q => by
  obtain ⟨x, rfl, h⟩ := hx.one
  cases h with
  | tup hs hv => exact ⟨_, _, rfl, .inr (e.sqT hs), fun l hl => q l _ F _ (Stp.own e hl) hl (e.back hl) upd_same hv⟩⟩

/-! items -/
theorem ixN_len {m n : Nat} (e : m = n) (i : Int) : ixN m i = ixN n i := by rw [e]
theorem Dvs.atI {F : Hp} {vs : List V} {ds : List D} (h : Dvs K F vs ds) {i : Int} (e : atI ds i = some d) : ∃ v, L2.atI vs i = some v ∧ Dv K F v d := by
  unfold L2.atI at e ⊢
  rw [ixN_len h.length]
  cases q : ixN ds.length i with
  | none => rw [q] at e; cases e
  | some j =>
    rw [q] at e
    exact h.get (i := j) e
theorem ix_listK {Y : Cx} (h : Y.K = K) : IxR Y (rIxL K) := by subst h; exact ix_list
theorem ix_tupK {Y : Cx} (h : Y.K = K) : IxR Y (rIxT K) := by subst h; exact ix_tup
theorem de_ixL {ds : List D} {i : Int} (ha : DE X a ρ (.lst ds)) (hb : DE X b ρ (.int i)) (hi : atI ds i = some d) (hs : PlainIx b := by exact fun _ _ => rfl) : DE X (.Subscript a b pos) ρ d := fun B F H σ Q hh q => by
  refine ⟨tOp (rIxL K) (WE X a) (WE X b), fun j => pe_ix (ix_listK (X.hK j)) (pe_w j) (pe_w j) hs, ?_⟩
  refine ha B F H σ _ hh fun x F1 H1 s1 v1 => hb B F1 H1 σ _ (hh.step s1) fun y F2 H2 s2 v2 => ?_
  cases v2
  cases v1 with
  | lst hs hv =>
    obtain ⟨v, e1, e2⟩ := (hv.mono s2.ff).atI hi
    exact ⟨_, _, i, v, rfl, rfl, (s2.ff.trans s2.fh).sqL hs, e1, q v F2 H2 (s1.trans s2) e2⟩
theorem de_ixT {ds : List D} {i : Int} (ha : DE X a ρ (.tup ds)) (hb : DE X b ρ (.int i)) (hi : atI ds i = some d) (hs : PlainIx b := by exact fun _ _ => rfl) : DE X (.Subscript a b pos) ρ d := fun B F H σ Q hh q => by
  refine ⟨tOp (rIxT K) (WE X a) (WE X b), fun j => pe_ix (ix_tupK (X.hK j)) (pe_w j) (pe_w j) hs, ?_⟩
  refine ha B F H σ _ hh fun x F1 H1 s1 v1 => hb B F1 H1 σ _ (hh.step s1) fun y F2 H2 s2 v2 => ?_
  cases v2
  cases v1 with
  | tup hs hv =>
    obtain ⟨v, e1, e2⟩ := (hv.mono s2.ff).atI hi
    exact ⟨_, _, i, v, rfl, rfl, (s2.ff.trans s2.fh).sqT hs, e1, q v F2 H2 (s1.trans s2) e2⟩
theorem de_ixS {z : Str} {i : Int} {n : Nat} (ha : DE X a ρ (.str z)) (hb : DE X b ρ (.int i)) (hl : z.length ≤ sizeLine) (hi : atI z.cps.toList i = some n) (hs : PlainIx b := by exact fun _ _ => rfl) : DE X (.Subscript a b pos) ρ (.str ⟨#[n]⟩) := fun B F H σ Q hh q => by
  refine ⟨tOp rIxS (WE X a) (WE X b), fun j => pe_ix ix_str (pe_w j) (pe_w j) hs, ?_⟩
  refine ha B F H σ _ hh fun x F1 H1 s1 v1 => hb B F1 H1 σ _ (hh.step s1) fun y F2 H2 s2 v2 => ?_
  cases v2
  cases v1
  exact ⟨z, i, n, rfl, rfl, hl, hi, q _ F2 H2 (s1.trans s2) (.str _)⟩

/-! ### calls of the text's own defs -/
/-- a def's answer: a value, or a new list -/
inductive Rs where
  | val (d : D) | new (ds : List D)
structure Wd (B F0 F H : Hp) : Prop where
  f0 : Ex F0 F
  fh : Ex F H
  bh : Ex B H
  nw : ∀ p o, F p = some o → F0 p = some o ∨ B p = none
theorem Wd.step {B F0 F H F' H' : Hp} (w : Wd B F0 F H) (s : Stp F H F' H') : Wd B F0 F' H' := ⟨w.f0.trans s.ff, s.fh, w.bh.trans s.hh, fun p o h => by
  rcases s.nw p o h with h | h
  · exact w.nw p o h
  · exact .inr (w.bh.back h)⟩
theorem Wd.stp {B F0 F H : Hp} (w : Wd B F0 F H) : Stp F0 B F H := ⟨w.f0, w.fh, w.bh, w.nw⟩
def Rv (K : PySem.W.Frag) (B F H : Hp) (v : V) : Rs → Prop
  | .val d => Dv K F v d
  | .new ds => ∃ p vs, v = .ref p ∧ B p = none ∧ F p = none ∧ H p = some (.lst vs) ∧ Dvs K F vs ds
/-- the promise of a def that raises nothing: φ ds R: called with ds it answers some r with R r -/
abbrev SpecD := List D → (Rs → Prop) → Prop
def spD (K : PySem.W.Frag) (φ : SpecD) : Sp := fun vs H Q _ => ∃ F ds R, Ex F H ∧ Dvs K F vs ds ∧ φ ds R ∧ ∀ r v F' H', R r → Wd H F F' H' → Rv K H F' H' v r → Q v H'
/-- a def of the text that keeps its promise, as a caller wants it -/
structure Has (X : Fam K) (x : Str) (φ : SpecD) : Prop where
  ex : ∃ (k : Nat) (f : Addr) (fd : FuncData) (ps : List Str), (∀ j, FnOk (X.X j).prog (X.X j).w K (X.X j).mg (X.X j).base CX0 k f fd ps (spD K φ)) ∧ (∀ j, Room k (X.X j).A) ∧ (∀ j, (X.X j).mg x = some (.ref f)) ∧
    PySem.W.keepIn K (.ref f) = true ∧ Binds K fd ps []
theorem Has.blk {x : Str} {φ : SpecD} {scope : Scope} (h : Has X x φ) : Has (X.blk scope) x φ := by
  obtain ⟨k, f, fd, ps, h1, h2, h3, h4, h5⟩ := h.ex
  exact ⟨k, f, fd, ps, fun j => h1 j.1, fun j => h2 j.1, fun j => h3 j.1, h4, h5⟩
theorem we_call {x : Str} {φ : SpecD} {es : List Expr} {ds : List D} {p : Pos} {R : Rs → Prop} (Fk : Has X x φ) (ha : DA X (e :: es) ρ ds) (hφ : φ ds R)
    (hg : ∀ j, Gl (X.X j) x := by intro _; rfl)
    (hdb : (x == ("__debug__" : Str)) = false := by decide) (he : ∀ j, starEach (e :: es) (X.X j).env = (false, eval e (X.X j).env) :: starEach es (X.X j).env := by intro _; rfl) (hpl : ∀ j, (backTo pos (starEach es (X.X j).env)).any (·.1) = false := by intro _; rfl)
    {B F H : Hp} {σ : L2.St} {Q : VK} (hh : Hd K B F H ρ σ) (q : ∀ r v F' H', R r → Stp F H F' H' → Rv K H F' H' v r → Q v H') :
    WE X (.Call (.Name x p) (e :: es) [] pos) σ H Q := by
  obtain ⟨k, f, fd, ps, h1, h2, h3, h4, h5⟩ := Fk.ex
  refine ⟨tCall (spD K φ) [] E0 (WA X _), fun j => pe_call (X := X.X j) (k := k) (f := f) (fd := fd) (ps := ps) ((X.hK j).symm ▸ h1 j) (h2 j) (hg j) (h3 j) ((X.hK j).symm ▸ h4) ((X.hK j).symm ▸ h5) .nil pass0 (pa_w j) hdb (he j) (hpl j), ?_⟩
  refine ha B F H σ _ hh fun vs F1 H1 s1 v1 => ⟨F1, ds, R, s1.fh, by rw [List.append_nil]; exact v1, hφ, fun r v F2 H2 hr w2 r2 => q r v F2 H2 hr (s1.trans w2.stp) ?_⟩
  cases r with
  | val d => exact r2
  | new ds =>
    obtain ⟨p, us, rfl, e1, e2, e3, e4⟩ := r2
    exact ⟨p, us, rfl, s1.hh.back e1, e2, e3, e4⟩
theorem de_call {x : Str} {φ : SpecD} {es : List Expr} {ds : List D} {p : Pos} (Fk : Has X x φ) (ha : DA X (e :: es) ρ ds) (hφ : φ ds fun r => r = .val d)
    (hg : ∀ j, Gl (X.X j) x := by intro _; rfl)
    (hdb : (x == ("__debug__" : Str)) = false := by decide) (he : ∀ j, starEach (e :: es) (X.X j).env = (false, eval e (X.X j).env) :: starEach es (X.X j).env := by intro _; rfl) (hpl : ∀ j, (backTo pos (starEach es (X.X j).env)).any (·.1) = false := by intro _; rfl) :
    DE X (.Call (.Name x p) (e :: es) [] pos) ρ d := fun B F H σ Q hh q => we_call Fk ha hφ hg hdb he hpl hh fun r v F' H' hr s rv => by
  subst hr; exact q v F' H' s rv
theorem dl_call {x : Str} {φ : SpecD} {es : List Expr} {ds os : List D} {p : Pos} (Fk : Has X x φ) (ha : DA X (e :: es) ρ ds) (hφ : φ ds fun r => r = .new os)
    (hg : ∀ j, Gl (X.X j) x := by intro _; rfl)
    (hdb : (x == ("__debug__" : Str)) = false := by decide) (he : ∀ j, starEach (e :: es) (X.X j).env = (false, eval e (X.X j).env) :: starEach es (X.X j).env := by intro _; rfl) (hpl : ∀ j, (backTo pos (starEach es (X.X j).env)).any (·.1) = false := by intro _; rfl) :
    DL X (.Call (.Name x p) (e :: es) [] pos) ρ os := fun B F H σ Q hh q => we_call Fk ha hφ hg hdb he hpl hh fun r v F' H' hr s rv => by
  subst hr
  obtain ⟨p, us, rfl, e1, e2, e3, e4⟩ := rv
  exact q p us F' H' s e1 e2 e3 e4
end
end Yp

namespace Yp
open PySem PySem.Spec PyProof.Rows L2

inductive Out where
  | nx (ρ : List Sl) | rt (r : Rs) | bk (ρ : List Sl) | ct (ρ : List Sl)
section
variable {K : PySem.W.Frag}
structure Post (K : PySem.W.Frag) (B F0 : Hp) (R : Out → Prop) (D : Ends) : Prop where
  nx : ∀ ρ F H σ, R (.nx ρ) → Wd B F0 F H → Hd K B F H ρ σ → D.nx σ H
  rt : ∀ r v F H, R (.rt r) → Wd B F0 F H → Rv K B F H v r → D.rt v H
  bk : ∀ ρ F H σ, R (.bk ρ) → Wd B F0 F H → Hd K B F H ρ σ → D.bk σ H
  ct : ∀ ρ F H σ, R (.ct ρ) → Wd B F0 F H → Hd K B F H ρ σ → D.ct σ H
def DS (X : Fam K) (st : Stmt) (ρ : List Sl) (R : Out → Prop) : Prop := ∀ B F0 F H σ D, Wd B F0 F H → Hd K B F H ρ σ → Post K B F0 R D → WS X st D σ H
def DSs (X : Fam K) (st : List Stmt) (ρ : List Sl) (R : Out → Prop) : Prop := ∀ B F0 F H σ D, Wd B F0 F H → Hd K B F H ρ σ → Post K B F0 R D → WSs X st D σ H
/-- then the rest -/
def Thn (X : Fam K) (rest : List Stmt) (R : Out → Prop) : Out → Prop
  | .nx ρ => DSs X rest ρ R
  | .rt r => R (.rt r)
  | .bk ρ => R (.bk ρ)
  | .ct ρ => R (.ct ρ)
variable {X : Fam K} {ρ : List Sl} {R R' : Out → Prop} {st : Stmt} {rest : List Stmt} {a b c e : Expr} {da db dc d : D} {pos : Pos}
theorem Post.imp {B F0 : Hp} {D : Ends} (p : Post K B F0 R D) (h : ∀ o, R' o → R o) : Post K B F0 R' D :=
  ⟨fun ρ F H σ r => p.nx ρ F H σ (h _ r), fun r v F H z => p.rt r v F H (h _ z), fun ρ F H σ r => p.bk ρ F H σ (h _ r), fun ρ F H σ r => p.ct ρ F H σ (h _ r)⟩
theorem DSs.imp {sts : List Stmt} (h : DSs X sts ρ R') (q : ∀ o, R' o → R o) : DSs X sts ρ R := fun B F0 F H σ D w hh p => h B F0 F H σ D w hh (p.imp q)
theorem DS.imp (h : DS X st ρ R') (q : ∀ o, R' o → R o) : DS X st ρ R := fun B F0 F H σ D w hh p => h B F0 F H σ D w hh (p.imp q)
theorem dss_nil (h : R (.nx ρ)) : DSs X [] ρ R := fun B F0 F H σ D w hh p => ⟨_, fun _ => pss_nil, p.nx ρ F H σ h w hh⟩
theorem dss_cons (h : DS X st ρ (Thn X rest R)) : DSs X (st :: rest) ρ R := fun B F0 F H σ D w hh p =>
  ⟨tSeq (WS X st) (WSs X rest), fun j => pss_cons (ps_w j) (pss_w j), h B F0 F H σ { D with nx := WSs X rest D } w hh
    ⟨fun ρ F H σ z w hh => z B F0 F H σ D w hh p, p.rt, p.bk, p.ct⟩⟩
/-- the ways join: what holds of the slots behind the statement -/
theorem dss_cut (J : List Sl → Prop) (h : DS X st ρ fun o => match o with | .nx ρ => J ρ | o => R o) (h2 : ∀ ρ, J ρ → DSs X rest ρ R) : DSs X (st :: rest) ρ R :=
  dss_cons (h.imp fun o => match o with | .nx ρ => h2 ρ | .rt _ => id | .bk _ => id | .ct _ => id)
theorem Hd.fresh {B F H : Hp} {σ : L2.St} {p : Addr} (h : Hd K B F H ρ σ) (hp : H p = none) (j : Nat) (es : List D) (e : ρ[j]? = some (.own es)) : σ[j]? ≠ some (some (.ref p)) := fun z => by
  obtain ⟨q, vs, h1, _, _, h3, _⟩ := h.own j es e
  rw [z] at h1; cases h1
  rw [hp] at h3; cases h3

/-! ### x = e -/
theorem ds_set (i : Nat) {x : Str} {p' : Pos} (he : DE X e ρ d) (hR : R (.nx (ρ.set i (.val d)))) (hN : ∀ j, (X.X j).N.Nodup) (hi : ∀ j, (X.X j).N[i]? = some x := by intro _; rfl) (hx : ∀ j, Loc (X.X j).env.scope x := by first | exact fun _ => Or.inl rfl | exact fun _ => Or.inr rfl)
    (hs : ∀ j, swapsWith e (some (.Name x p')) pos.line (X.X j).env = pure false := by intro _; rfl) (hf : ∀ j, (X.X j).fn x = true ∨ (X.X j).env.scope.names.lookup x = some .local := by first | exact fun _ => .inl rfl | exact fun _ => .inr rfl) :
    DS X (.Assign [.Name x p'] e pos) ρ R := fun B F0 F H σ D w hh p =>
  ⟨tAsg (WE X e) (gName i), fun j => ps_set (hN j) (hi j) (hx j) (pe_w j) (hs j) (hf j), he B F H σ _ hh fun v F' H' s hv => p.nx _ F' H' _ hR (w.step s) ((hh.step s).set hv i)⟩
theorem ds_setL (i : Nat) {x : Str} {p' : Pos} {ds : List D} (he : DL X e ρ ds) (hR : R (.nx (ρ.set i (.own ds)))) (hN : ∀ j, (X.X j).N.Nodup) (hi : ∀ j, (X.X j).N[i]? = some x := by intro _; rfl) (hx : ∀ j, Loc (X.X j).env.scope x := by first | exact fun _ => Or.inl rfl | exact fun _ => Or.inr rfl)
    (hs : ∀ j, swapsWith e (some (.Name x p')) pos.line (X.X j).env = pure false := by intro _; rfl) (hf : ∀ j, (X.X j).fn x = true ∨ (X.X j).env.scope.names.lookup x = some .local := by first | exact fun _ => .inl rfl | exact fun _ => .inr rfl) :
    DS X (.Assign [.Name x p'] e pos) ρ R := fun B F0 F H σ D w hh p =>
  ⟨tAsg (WE X e) (gName i), fun j => ps_set (hN j) (hi j) (hx j) (pe_w j) (hs j) (hf j), he B F H σ _ hh fun q vs F' H' s e1 e2 e3 hv => p.nx _ F' H' _ hR (w.step s)
    ((hh.step s).setOwn (i := i) (w.bh.back e1) e2 e3 hv (fun j es ej _ => hh.fresh e1 j es ej) rfl)⟩
/-- a list of one's own becomes a value like others -/
theorem dss_freeze (i : Nat) {sts : List Stmt} {ds : List D} (hi : ρ[i]? = some (.own ds)) (h : DSs X sts (ρ.set i (.val (.lst ds))) R) : DSs X sts ρ R := fun B F0 F H σ D w hh p => by
  obtain ⟨q, vs, h1, hb, h2, h3, h4, hz⟩ := hh.freeze hi
  refine h B F0 _ H σ D ⟨w.f0.trans (Ex.new h2), hz.fh, w.bh, fun a o z => ?_⟩ hz p
  by_cases y : a = q
  · subst y; exact .inr hb
  · rw [upd_ne y] at z; exact w.nw a o z
/-! ### return -/
theorem ds_ret (he : DE X e ρ d) (hR : R (.rt (.val d))) : DS X (.Return (some e) pos) ρ R := fun B F0 F H σ D w hh p =>
  ⟨tRet (WE X e), fun j => ps_ret (pe_w j), he B F H σ _ hh fun v F' H' s hv => p.rt (.val d) v F' H' hR (w.step s) hv⟩
theorem ds_retL {ds : List D} (he : DL X e ρ ds) (hR : R (.rt (.new ds))) : DS X (.Return (some e) pos) ρ R := fun B F0 F H σ D w hh p =>
  ⟨tRet (WE X e), fun j => ps_ret (pe_w j), he B F H σ _ hh fun q vs F' H' s e1 e2 e3 hv => p.rt (.new ds) _ F' H' hR (w.step s) ⟨q, vs, rfl, w.bh.back e1, e2, e3, hv⟩⟩
theorem ds_retO (i : Nat) {x : Str} {p1 : Pos} {ds : List D} (hi : ρ[i]? = some (.own ds)) (hR : R (.rt (.new ds))) (hN : ∀ j, (X.X j).N[i]? = some x := by intro _; rfl)
    (hv : ∀ j, Vis (X.X j).env.scope x := by first | exact fun _ => Or.inl rfl | exact fun _ => Or.inr (Or.inl rfl) | exact fun _ => Or.inr (Or.inr rfl)) (hd : (x == ("__debug__" : Str)) = false := by decide)
    (hcd : (x == ("__classdict__" : Str)) = false := by decide) : DS X (.Return (some (.Name x p1)) pos) ρ R := fun B F0 F H σ D w hh p => by
  obtain ⟨q, vs, h1, hb, h2, h3, h4⟩ := hh.own i ds hi
  exact ⟨tRet (tVar i), fun j => ps_ret (pe_var (hN j) (hv j) hd hcd), _, h1, p.rt (.new ds) _ F H hR w ⟨q, vs, rfl, hb, h2, h3, h4⟩⟩
/-! ### small statements -/
theorem ds_pass (h : R (.nx ρ)) : DS X (.Pass pos) ρ R := fun B F0 F H σ D w hh p => ⟨_, fun _ => ps_pass, p.nx ρ F H σ h w hh⟩
theorem ds_break (h : R (.bk ρ)) : DS X (.Break pos) ρ R := fun B F0 F H σ D w hh p => ⟨_, fun _ => ps_break, p.bk ρ F H σ h w hh⟩
theorem ds_continue (h : R (.ct ρ)) : DS X (.Continue pos) ρ R := fun B F0 F H σ D w hh p => ⟨_, fun _ => ps_continue, p.ct ρ F H σ h w hh⟩
theorem ds_expr (he : DE X e ρ d) (h : R (.nx ρ)) (hs : ∀ j, swapsWith e none pos.line (X.X j).env = pure false := by intro _; rfl) : DS X (.Expr e pos) ρ R := fun B F0 F H σ D w hh p =>
  ⟨tDrop (WE X e), fun j => ps_expr (pe_w j) (hs j), he B F H σ _ hh fun v F' H' s hv => p.nx ρ F' H' σ h (w.step s) (hh.step s)⟩
theorem ds_if {k : Bool} {s1 s2 : List Stmt} (hc : DT X c ρ k) (h1 : k = true → DSs X s1 ρ R) (h2 : k = false → DSs X s2 ρ R) : DS X (.If c s1 s2 pos) ρ R := fun B F0 F H σ D w hh p =>
  ⟨tIfS (WT X c) (WSs X s1) (WSs X s2), fun j => ps_if (pt_w j) (pss_w j) (pss_w j), hc B F H σ _ hh fun F' H' s => by
    cases k with
    | true => exact iteT (h1 rfl B F0 F' H' σ D (w.step s) (hh.step s) p)
    | false => exact iteF (h2 rfl B F0 F' H' σ D (w.step s) (hh.step s) p)⟩
/-! ### x.append(e), x[i] = e, of a list of one's own -/
theorem pe_appendK {Y : Cx} (hk : Y.K = K) {o e : Expr} {to : TE} {t : TA} {apos cpos : Pos} (ho : PE Y o to) (ha : PA Y [e] t) (g1 : attributeBase o "append" Y.env (eval o Y.env) = eval o Y.env)
    (g2 : (((((backTo cpos (starEach [e] Y.env)).all fun x => !x.fst) && (backToKw cpos (keywordEach [] Y.env)).all fun x => x.fst.isSome) && decide (([e].length + ([] : List Keyword).length + if ([] : List Keyword).isEmpty = true then 0 else 1) < 30)) = true))
    (g3 : (apos.endLine == cpos.line) = true) (g4 : starEach [e] Y.env = (false, eval e Y.env) :: starEach [] Y.env) : PE Y (.Call (.Attribute o "append" apos) [e] [] cpos) (tBM K "list" rAppend to t) := by
  subst hk; exact pe_bm PySem.F.plainAttrs_list PySem.F.slot_list_append PySem.F.type_list_append mt_append ho ha g1 g2 g3 g4
theorem ds_append (i : Nat) {x : Str} {p1 apos cpos : Pos} {ds : List D} (hi : ρ[i]? = some (.own ds)) (he : DE X e ρ d) (hl : ds.length < 100000) (hR : R (.nx (ρ.set i (.own (ds ++ [d]))))) (hN : ∀ j, (X.X j).N[i]? = some x := by intro _; rfl)
    (hv : ∀ j, Vis (X.X j).env.scope x := by first | exact fun _ => Or.inl rfl | exact fun _ => Or.inr (Or.inl rfl) | exact fun _ => Or.inr (Or.inr rfl)) (hd : (x == ("__debug__" : Str)) = false := by decide)
    (hcd : (x == ("__classdict__" : Str)) = false := by decide)
    (g1 : ∀ j, attributeBase (.Name x p1) "append" (X.X j).env (eval (.Name x p1) (X.X j).env) = eval (.Name x p1) (X.X j).env := by intro _; rfl)
    (g2 : ∀ j, (((((backTo cpos (starEach [e] (X.X j).env)).all fun x => !x.fst) && (backToKw cpos (keywordEach [] (X.X j).env)).all fun x => x.fst.isSome) && decide (([e].length + ([] : List Keyword).length + if ([] : List Keyword).isEmpty = true then 0 else 1) < 30)) = true) := by intro _; rfl)
    (g3 : (apos.endLine == cpos.line) = true := by rfl)
    (g4 : ∀ j, starEach [e] (X.X j).env = (false, eval e (X.X j).env) :: starEach [] (X.X j).env := by intro _; rfl)
    (hs : ∀ j, swapsWith (.Call (.Attribute (.Name x p1) "append" apos) [e] [] cpos) none pos.line (X.X j).env = pure false := by intro _; rfl) :
    DS X (.Expr (.Call (.Attribute (.Name x p1) "append" apos) [e] [] cpos) pos) ρ R := fun B F0 F H σ D w hh p => by
  obtain ⟨q, vs, h1, hb, h2, h3, h4⟩ := hh.own i ds hi
  refine ⟨tDrop (tBM K "list" rAppend (tVar i) (tCons (WE X e) tNil)), fun j => ps_expr (pe_appendK (X.hK j) (pe_var (hN j) (hv j) hd hcd) (pa_cons (pe_w j) pa_nil (g4 j)) (g1 j) (g2 j) g3 (g4 j)) (hs j), ?_⟩
  refine ⟨_, h1, .inl ⟨rfl, _, .inl (.inl h3)⟩, he B F H σ _ hh fun v F' H' s hv' => ?_⟩
  have hh' := hh.step s
  have h3' := s.hh _ _ h3
  have hf' : F' q = none := by
    obtain ⟨q', _, z1, _, z2, _⟩ := hh'.own i ds hi
    rw [h1] at z1; cases z1; exact z2
  refine ⟨q, vs, v, rfl, rfl, h3', by rw [h4.length]; exact small_lt hl, ?_⟩
  refine p.nx _ F' _ σ hR ⟨w.f0.trans s.ff, fun a o z => ?_, fun a o z => ?_, (w.step s).nw⟩ (hh'.write hi h1 hf' ((h4.mono s.ff).snoc hv'))
  · rw [upd_ne (ne_of_none z hf')]; exact s.fh a o z
  · rw [upd_ne (ne_of_none z hb)]; exact s.hh _ _ (w.bh a o z)
theorem ds_put (i : Nat) {x : Str} {p1 ps : Pos} {ds : List D} {ix : Expr} {k : Int} {j0 : Nat} (hi : ρ[i]? = some (.own ds)) (he : DE X e ρ d) (hx : DE X ix ρ (.int k)) (hk : ixN ds.length k = some j0) (hR : R (.nx (ρ.set i (.own (ds.set j0 d))))) (hN : ∀ j, (X.X j).N[i]? = some x := by intro _; rfl)
    (hv : ∀ j, Vis (X.X j).env.scope x := by first | exact fun _ => Or.inl rfl | exact fun _ => Or.inr (Or.inl rfl) | exact fun _ => Or.inr (Or.inr rfl)) (hd : (x == ("__debug__" : Str)) = false := by decide)
    (hcd : (x == ("__classdict__" : Str)) = false := by decide)
    (ha : ∀ j v, assign (.Subscript (.Name x p1) ix ps) (X.X j).env v = (do
      let ov ← holding [v] (eval (.Name x p1) (X.X j).env)
      let iv ← holding [v, ov] (eval ix (X.X j).env)
      standAt ps
      holding [v, ov, iv] (setItem ov iv v)
      release [v, ov, iv] []) := by intro _ _; rfl)
    (g1 : ∀ j, swapsWithSole [.Subscript (.Name x p1) ix ps] e pos.line (X.X j).env = pure false := by intro _; rfl) (g2 : ∀ j, swappedStores [.Subscript (.Name x p1) ix ps] e (X.X j).env = pure none := by intro _; rfl)
    (g3 : ∀ j, (assignEach [.Subscript (.Name x p1) ix ps] (X.X j).env).map (·.2) = [assign (.Subscript (.Name x p1) ix ps) (X.X j).env] := by intro _; rfl) :
    DS X (.Assign [.Subscript (.Name x p1) ix ps] e pos) ρ R := fun B F0 F H σ D w hh p => by
  refine ⟨tAsg (WE X e) (gSub (tVar i) (WE X ix) rSetL), fun j => ps_asg (pe_w j) (pg_sub (pe_var (hN j) (hv j) hd hcd) (pe_w j) set_list (ha j)) (g1 j) (g2 j) (g3 j), ?_⟩
  refine he B F H σ _ hh fun v F1 H1 s1 hv1 => ?_
  have hh1 := hh.step s1
  obtain ⟨q, vs, h1, hb, h2, h3, h4⟩ := hh1.own i ds hi
  refine ⟨_, h1, hx B F1 H1 σ _ hh1 fun y F2 H2 s2 hv2 => ?_⟩
  cases hv2
  have hh2 := hh1.step s2
  have h3' := s2.hh _ _ h3
  have hf' : F2 q = none := by
    obtain ⟨q', _, z1, _, z2, _⟩ := hh2.own i ds hi
    rw [h1] at z1; cases z1; exact z2
  refine ⟨q, vs, k, j0, rfl, rfl, h3', by rw [h4.length]; exact hk, ?_⟩
  refine p.nx _ F2 _ σ hR ⟨w.f0.trans (s1.ff.trans s2.ff), fun a o z => ?_, fun a o z => ?_, ((w.step s1).step s2).nw⟩ (hh2.write hi h1 hf' ((h4.mono s2.ff).set (hv1.mono s2.ff) j0))
  · rw [upd_ne (ne_of_none z hf')]; exact s2.fh a o z
  · rw [upd_ne (ne_of_none z hb)]; exact s2.hh _ _ (s1.hh _ _ (w.bh a o z))
/-! ### x op= e -/
def IpD (X : Fam K) (op : Operator) (da db d : D) : Prop := ∃ r : R2, (∀ j, OpR (X.X j) (inplaceOp op) r) ∧ ∀ F H x y (Q : VK), Ex F H → Dv K F x da → Dv K F y db → (∀ v F' H', Stp F H F' H' → Dv K F' v d → Q v H') → r x y H Q
theorem ds_aug (i : Nat) {x : Str} {p' : Pos} {op : Operator} (hi : ρ[i]? = some (.val da)) (he : DE X e ρ db) (ho : IpD X op da db d) (hR : R (.nx (ρ.set i (.val d)))) (hN : ∀ j, (X.X j).N.Nodup) (hn : ∀ j, (X.X j).N[i]? = some x := by intro _; rfl) (hx : ∀ j, Loc (X.X j).env.scope x := by first | exact fun _ => Or.inl rfl | exact fun _ => Or.inr rfl)
    (hf : ∀ j, (X.X j).fn x = true ∨ (X.X j).env.scope.names.lookup x = some .local := by first | exact fun _ => .inl rfl | exact fun _ => .inr rfl) : DS X (.AugAssign (.Name x p') op e pos) ρ R := fun B F0 F H σ D w hh p => by
  obtain ⟨r, h1, h2⟩ := ho
  obtain ⟨v, e1, e2⟩ := hh.val i da hi
  refine ⟨tAug i (WE X e) r, fun j => ps_aug (hN j) (hn j) (hx j) (pe_w j) (h1 j) (hf j), v, e1, he B F H σ _ hh fun y F1 H1 s1 v1 => ?_⟩
  exact h2 F1 H1 v y _ s1.fh (e2.mono s1.ff) v1 fun z F2 H2 s2 v2 => p.nx _ F2 H2 _ hR ((w.step s1).step s2) (((hh.step s1).step s2).set v2 i)
theorem ipd_I {op : Operator} {C : Int → Int → Prop} {g : Int → Int → Int} (h : ∀ Y : Cx, OpR Y (inplaceOp op) (rI C fun i j => .int (g i j))) {i j : Int} (hc : C i j) : IpD X op (.int i) (.int j) (.int (g i j)) :=
  ⟨_, fun j => h _, fun F H x y Q e hx hy q => by cases hx; cases hy; exact ⟨i, j, rfl, rfl, hc, q _ F H (Stp.refl e) (.int _)⟩⟩
theorem ipd_I0 {op : Operator} {g : Int → Int → Int} (h : ∀ Y : Cx, OpR Y (inplaceOp op) (rI0 fun i j => .int (g i j))) {i j : Int} : IpD X op (.int i) (.int j) (.int (g i j)) :=
  ⟨_, fun j => h _, fun F H x y Q e hx hy q => by cases hx; cases hy; exact ⟨i, j, rfl, rfl, q _ F H (Stp.refl e) (.int _)⟩⟩
theorem ipd_add {i j : Int} : IpD X .Add (.int i) (.int j) (.int (i + j)) := ipd_I0 fun _ => iop_add
theorem ipd_sub {i j : Int} : IpD X .Sub (.int i) (.int j) (.int (i - j)) := ipd_I0 fun _ => iop_sub
theorem ipd_mul {i j : Int} (h : CMul i j) : IpD X .Mult (.int i) (.int j) (.int (i * j)) := ipd_I (fun _ => iop_mul) h
theorem ipd_div {i j : Int} (h : CDiv i j) : IpD X .FloorDiv (.int i) (.int j) (.int (i / j)) := ipd_I (fun _ => iop_fdiv) h
theorem ipd_mod {i j : Int} (h : 0 < j) : IpD X .Mod (.int i) (.int j) (.int (i % j)) := ipd_I (C := fun _ j => 0 < j) (fun _ => iop_mod) h

/-! ### targets -/
/-- all but the slots ts are as they were -/
def Same1 (ts : List Nat) (σ σ' : L2.St) : Prop := σ'.length = σ.length ∧ ∀ k, k ∉ ts → σ'[k]? = σ[k]?
def DG (X : Fam K) (tg : Expr) (d : D) (ρ : List Sl) (ts : List Nat) (S : List Sl → Prop) : Prop := ∀ B F H σ v (Q : L2.St → Hp → Prop), Hd K B F H ρ σ → Dv K F v d → (∀ ρ' σ', S ρ' → Hd K B F H ρ' σ' → Same1 ts σ σ' → Q σ' H) → WG X tg v σ H Q
def DGs (X : Fam K) (tg : List Expr) (d : List D) (ρ : List Sl) (ts : List Nat) (S : List Sl → Prop) : Prop := ∀ B F H σ v (Q : L2.St → Hp → Prop), Hd K B F H ρ σ → Dvs K F v d → (∀ ρ' σ', S ρ' → Hd K B F H ρ' σ' → Same1 ts σ σ' → Q σ' H) → WGs X tg v σ H Q
theorem dg_name (i : Nat) {x : Str} {S : List Sl → Prop} (hS : S (ρ.set i (.val d))) (hN : ∀ j, (X.X j).N.Nodup) (hi : ∀ j, (X.X j).N[i]? = some x := by intro _; rfl) (hx : ∀ j, Loc (X.X j).env.scope x := by first | exact fun _ => Or.inl rfl | exact fun _ => Or.inr rfl)
    (hf : ∀ j, (X.X j).fn x = true ∨ (X.X j).env.scope.names.lookup x = some .local := by first | exact fun _ => .inl rfl | exact fun _ => .inr rfl) : DG X (.Name x pos) d ρ [i] S := fun B F H σ v Q hh hv q =>
  ⟨gName i, fun j => pg_name (hN j) (hi j) (hx j) (hf j), q _ _ hS (hh.set hv i) ⟨List.length_set, fun k hk => List.getElem?_set_ne (fun e => hk (by rw [e]; exact List.mem_singleton.mpr rfl))⟩⟩
theorem dgs_nil {S : List Sl → Prop} (hS : S ρ) : DGs X [] [] ρ [] S := fun B F H σ v Q hh hv q => by
  cases hv
  exact ⟨gNil, fun _ => pgs_nil, rfl, q ρ σ hS hh ⟨rfl, fun _ _ => rfl⟩⟩
theorem dgs_cons {es : List Expr} {ds : List D} {S : List Sl → Prop} {t1 t2 : List Nat} (h : DG X e d ρ t1 fun ρ' => DGs X es ds ρ' t2 S) (hs : ∀ j, (assignEach (e :: es) (X.X j).env).map (·.2) = assign e (X.X j).env :: (assignEach es (X.X j).env).map (·.2) := by intro _; rfl) : DGs X (e :: es) (d :: ds) ρ (t1 ++ t2) S := fun B F H σ v Q hh hv q => by
  cases hv with
  | cons h1 h2 =>
    exact ⟨gCons (WG X e) (WGs X es), fun j => pgs_cons (pg_w j) (pgs_w j) (hs j), _, _, rfl, h B F H σ _ _ hh h1 fun ρ' σ' z hh' y => z B F H σ' _ Q hh' h2 fun ρ2 σ2 z2 hh2 y2 =>
      q ρ2 σ2 z2 hh2 ⟨y2.1.trans y.1, fun k hk => (y2.2 k fun m => hk (List.mem_append_right _ m)).trans (y.2 k fun m => hk (List.mem_append_left _ m))⟩⟩
theorem pg_tupK {Y : Cx} (hk : Y.K = K) {es : List Expr} {k : Nat} {t : TGs} {n : Nat} (hc : Y.calm = true) (h : PGs Y es t) (hn : (assignEach es Y.env).length = n) (hst : (assignEach es Y.env).findIdx? (·.1) = none) : PG Y (.Tuple es k pos) (gTup K n t) := by
  subst hk; exact pg_tup hc h hn hst
theorem dg_tup {es : List Expr} {ds : List D} {k : Nat} {S : List Sl → Prop} {ts : List Nat} (h : DGs X es ds ρ ts S) (hc : ∀ j, (X.X j).calm = true := by intro _; rfl) (hn : ∀ j, (assignEach es (X.X j).env).length = ds.length := by intro _; rfl) (hst : ∀ j, (assignEach es (X.X j).env).findIdx? (·.1) = none := by intro _; rfl) :
    DG X (.Tuple es k pos) (.tup ds) ρ ts S := fun B F H σ v Q hh hv q => by
  cases hv with
  | tup hs hv => exact ⟨gTup K ds.length (WGs X es), fun j => pg_tupK (X.hK j) (hc j) (pgs_w j) (hn j) (hst j), _, _, rfl, hh.fh.sqT hs, hv.length, h B F H σ _ Q hh hv q⟩
/-- target = value, any target -/
theorem ds_asg {tg : Expr} {ts : List Nat} (he : DE X e ρ d) (hg : DG X tg d ρ ts fun ρ' => R (.nx ρ')) (g1 : ∀ j, swapsWithSole [tg] e pos.line (X.X j).env = pure false := by intro _; rfl) (g2 : ∀ j, swappedStores [tg] e (X.X j).env = pure none := by intro _; rfl)
    (g3 : ∀ j, (assignEach [tg] (X.X j).env).map (·.2) = [assign tg (X.X j).env] := by intro _; rfl) : DS X (.Assign [tg] e pos) ρ R := fun B F0 F H σ D w hh p =>
  ⟨tAsg (WE X e) (WG X tg), fun j => ps_asg (pe_w j) (pg_w j) (g1 j) (g2 j) (g3 j), he B F H σ _ hh fun v F' H' s hv => hg B F' H' σ v _ (hh.step s) hv fun ρ' σ' z hh' _ => p.nx _ F' H' σ' z (w.step s) hh'⟩

/-! ### what is walked -/
structure Itd (K : PySem.W.Frag) (F1 : Hp) (J : It) (items : List D) : Prop where
  go : ∀ F H i, Ex F1 F → Ex F H → i < items.length → J.go i H
  yl : ∀ F H i x H' d, Ex F1 F → Ex F H → items[i]? = some d → J.yld i H x H' → ∃ F', Stp F H F' H' ∧ Dv K F' x d
  st : ∀ F H, Ex F1 F → Ex F H → J.stop items.length H
def DI (X : Fam K) (tg iter : Expr) (ρ : List Sl) (items : List D) : Prop := ∀ B F H σ (R : It → Hp → Prop), Hd K B F H ρ σ → (∀ J F' H', Stp F H F' H' → Itd K F' J items → R J H') → WI X tg iter σ H R
theorem DI.is {tg iter : Expr} {xs ys : List D} (h : DI X tg iter ρ xs) (e : xs = ys) : DI X tg iter ρ ys := e ▸ h
theorem pi_listK {Y : Cx} (hk : Y.K = K) {tg l : Expr} {tl : TE} (h : PE Y l tl) : PI Y tg l (iList K tl) := by subst hk; exact pi_list h
theorem pi_tupK {Y : Cx} (hk : Y.K = K) {tg l : Expr} {tl : TE} (h : PE Y l tl) : PI Y tg l (iTup K tl) := by subst hk; exact pi_tup h
theorem di_list {tg : Expr} {ds : List D} (h : DE X e ρ (.lst ds)) : DI X tg e ρ ds := fun B F H σ R hh q =>
  ⟨iList K (WE X e), fun j => pi_listK (X.hK j) (pe_w j), h B F H σ _ hh fun v F' H' s hv => by
    cases hv with
    | @lst a xs _ hs hv =>
      refine ⟨a, rfl, ⟨_, s.fh.sqL hs⟩, q _ F' H' s ⟨fun F2 H2 i e1 e2 hi => ?_, fun F2 H2 i x H3 d e1 e2 hd hy => ?_, fun F2 H2 e1 e2 => ⟨xs, (e1.trans e2).sqL hs, by rw [hv.length]; exact Nat.le_refl _⟩⟩⟩
      · have h1 : i < xs.length := by rw [hv.length]; exact hi
        exact ⟨xs, xs[i], (e1.trans e2).sqL hs, List.getElem?_eq_getElem h1⟩
      · obtain ⟨rfl, hz⟩ := hy
        obtain ⟨v, g1, g2⟩ := hv.get hd
        have := (hz xs ((e1.trans e2).sqL hs)).symm.trans g1
        cases this
        exact ⟨F2, Stp.refl e2, g2.mono e1⟩⟩
theorem di_tup {tg : Expr} {ds : List D} (h : DE X e ρ (.tup ds)) : DI X tg e ρ ds := fun B F H σ R hh q =>
  ⟨iTup K (WE X e), fun j => pi_tupK (X.hK j) (pe_w j), h B F H σ _ hh fun v F' H' s hv => by
    cases hv with
    | @tup a xs _ hs hv =>
      refine ⟨a, rfl, ⟨_, s.fh.sqT hs⟩, q _ F' H' s ⟨fun F2 H2 i e1 e2 hi => ?_, fun F2 H2 i x H3 d e1 e2 hd hy => ?_, fun F2 H2 e1 e2 => ⟨xs, (e1.trans e2).sqT hs, by rw [hv.length]; exact Nat.le_refl _⟩⟩⟩
      · have h1 : i < xs.length := by rw [hv.length]; exact hi
        exact ⟨xs, xs[i], (e1.trans e2).sqT hs, List.getElem?_eq_getElem h1⟩
      · obtain ⟨rfl, hz⟩ := hy
        obtain ⟨v, g1, g2⟩ := hv.get hd
        have := (hz xs ((e1.trans e2).sqT hs)).symm.trans g1
        cases this
        exact ⟨F2, Stp.refl e2, g2.mono e1⟩⟩
def rangeD (lo : Int) (n : Nat) : List D := (List.range n).map fun (k : Nat) => D.int (lo + (k : Int))
theorem rangeD_get {lo : Int} {n i : Nat} {d : D} (h : (rangeD lo n)[i]? = some d) : i < n ∧ d = .int (lo + (i : Int)) := by
  unfold rangeD at h
  rw [List.getElem?_map] at h
  cases q : (List.range n)[i]? with
  | none => rw [q] at h; cases h
  | some k =>
    rw [q] at h
    obtain ⟨h1, h2⟩ := List.getElem?_eq_some_iff.mp q
    rw [List.getElem_range] at h2
    rw [List.length_range] at h1
    subst h2
    exact ⟨h1, (Option.some.inj h).symm⟩
theorem rangeD_len {lo : Int} {n : Nat} : (rangeD lo n).length = n := by unfold rangeD; rw [List.length_map, List.length_range]
theorem itd_range {F1 : Hp} {lo : Int} {n : Nat} : Itd K F1 (Itr lo n) (rangeD lo n) :=
  ⟨fun F H i _ _ hi => by rw [rangeD_len] at hi; exact hi, fun F H i x H' d _ e2 hd hy => by
    obtain ⟨rfl, rfl⟩ := hy
    obtain ⟨_, rfl⟩ := rangeD_get hd
    exact ⟨F, Stp.refl e2, .int _⟩, fun F H _ _ => by rw [rangeD_len]; exact Nat.le_refl _⟩
theorem di_range1 {tg : Expr} {p : Pos} {n : Int} (h : DE X a ρ (.int n)) (hm : ∀ j, (X.X j).mg "range" = none) (b1 : -(2 ^ 62) ≤ n := by omega) (b2 : n < 2 ^ 62 := by omega) (hg : ∀ j, Gl (X.X j) "range" := by intro _; rfl) (hs : ∀ j, starEach [a] (X.X j).env = [(false, eval a (X.X j).env)] := by intro _; rfl) :
    DI X tg (.Call (.Name "range" p) [a] [] pos) ρ (rangeD 0 n.toNat) := fun B F H σ R hh q =>
  ⟨iRng1 (WA X [a]), fun j => pi_range1 (hg j) (hm j) (pa_w j) (hs j), da_cons h da_nil (fun j => (hs j).trans rfl) B F H σ _ hh fun vs F' H' s hv => by
    obtain ⟨x, rfl, hx⟩ := hv.one
    cases hx
    exact ⟨n, rfl, b1, b2, q _ F' H' s itd_range⟩⟩
theorem di_range2 {tg : Expr} {p : Pos} {m n : Int} (h : DE X a ρ (.int m)) (h2 : DE X b ρ (.int n)) (hm : ∀ j, (X.X j).mg "range" = none) (b1 : -(2 ^ 62) ≤ m := by omega) (b2 : m < 2 ^ 62 := by omega) (b3 : -(2 ^ 62) ≤ n := by omega) (b4 : n < 2 ^ 62 := by omega) (hg : ∀ j, Gl (X.X j) "range" := by intro _; rfl)
    (hs : ∀ j, starEach [a, b] (X.X j).env = [(false, eval a (X.X j).env), (false, eval b (X.X j).env)] := by intro _; rfl) (hs2 : ∀ j, starEach [b] (X.X j).env = [(false, eval b (X.X j).env)] := by intro _; rfl) :
    DI X tg (.Call (.Name "range" p) [a, b] [] pos) ρ (rangeD m (n - m).toNat) := fun B F H σ R hh q =>
  ⟨iRng2 (WA X [a, b]), fun j => pi_range2 (hg j) (hm j) (pa_w j) (hs j) (hs2 j), da_cons h (da_cons h2 da_nil (fun j => (hs2 j).trans rfl)) (fun j => by rw [hs j, hs2 j]) B F H σ _ hh fun vs F' H' s hv => by
    obtain ⟨x, y, rfl, hx, hy⟩ := hv.two
    cases hx; cases hy
    exact ⟨m, n, rfl, ⟨b1, b2, b3, b4⟩, q _ F' H' s itd_range⟩⟩
def signsD (z : Str) : List D := z.cps.toList.map fun n => D.str ⟨#[n]⟩
theorem di_str {tg : Expr} {z : Str} (h : DE X e ρ (.str z)) : DI X tg e ρ (signsD z) := fun B F H σ R hh q =>
  ⟨iStr (WE X e), fun j => pi_str (pe_w j), h B F H σ _ hh fun v F' H' s hv => by
    cases hv
    refine ⟨z, rfl, q _ F' H' s ⟨fun F H i _ _ hi => ?_, fun F H i x H' d _ e2 hd hy => ?_, fun F H _ _ => ?_⟩⟩
    · unfold signsD at hi
      rw [List.length_map, Array.length_toList] at hi
      exact hi
    · obtain ⟨rfl, n, hn, rfl⟩ := hy
      unfold signsD at hd
      rw [List.getElem?_map, Array.getElem?_toList, hn] at hd
      cases hd
      exact ⟨F, Stp.refl e2, .str _⟩
    · show z.cps.size ≤ _
      unfold signsD
      rw [List.length_map, Array.length_toList]
      exact Nat.le_refl _⟩

/-! ### for -/
theorem Wd.rebase {B F0 F1 H1 F H : Hp} (a : Wd B F0 F1 H1) (b : Wd B F1 F H) : Wd B F0 F H := ⟨a.f0.trans b.f0, b.fh, b.bh, fun p o z => by
  rcases b.nw p o z with z | z
  · exact a.nw p o z
  · exact .inr z⟩
/-- what a turn is to reach -/
def Turn1 (I : Nat → List Sl → Prop) (R : Out → Prop) (i : Nat) : Out → Prop
  | .nx ρ => I (i + 1) ρ
  | .ct ρ => I (i + 1) ρ
  | .bk ρ => R (.nx ρ)
  | .rt r => R (.rt r)
theorem ds_for (ts : List Nat) {tg iter : Expr} {body : List Stmt} {items : List D} (I : Nat → List Sl → Prop) (hi : DI X tg iter ρ items) (h0 : I 0 ρ)
    (hs : ∀ i ρ' d, items[i]? = some d → I i ρ' → DG X tg d ρ' ts fun ρ2 => DSs X body ρ2 (Turn1 I R i)) (hd : ∀ ρ', I items.length ρ' → R (.nx ρ'))
    (hp : ∀ j, PassesOwn (model (X.X j).prog (X.X j).w) (X.X j).A (X.X j).env (X.X j).xe := by exact fun _ => PassesOwn.never) (hc : ∀ j, (X.X j).calm = true := by intro _; rfl) (hf : ∀ j x, foldedSetIterable iter (X.X j).env x = pure x := by intro _ _; rfl) :
    DS X (.For tg iter body [] pos) ρ R := fun B F0 F H σ D w hh p => by
  refine ⟨tFor (WI X tg iter) (WG X tg) (WSs X body), fun j => ps_for (hp j) (hc j) (pi_w j) (pg_w j) (pss_w j) (hf j), ?_⟩
  refine hi B F H σ _ hh fun J F1 H1 s1 it => ?_
  have w1 := w.step s1
  refine ⟨fun i m σ' H' => ∃ ρ' F', i + m = items.length ∧ I i ρ' ∧ Wd B F1 F' H' ∧ Hd K B F' H' ρ' σ', ⟨items.length, ρ, F1, Nat.zero_add _, h0, ⟨Ex.refl _, s1.fh, w1.bh, fun _ _ z => .inl z⟩, hh.step s1⟩, ?_⟩
  rintro i m σ' H' ⟨ρ', F', him, hI, w', hh'⟩
  by_cases hlt : i < items.length
  · refine .inr ⟨it.go F' H' i w'.f0 w'.fh hlt, fun σ2 H2 => ∃ ρ2 F2, I (i + 1) ρ2 ∧ Wd B F1 F2 H2 ∧ Hd K B F2 H2 ρ2 σ2, fun σ2 H2 ⟨ρ2, F2, z1, z2, z3⟩ => ⟨m - 1, by omega, ρ2, F2, by omega, z1, z2, z3⟩, fun x H2 hy => ?_⟩
    obtain ⟨F2, s2, hv⟩ := it.yl F' H' i x H2 _ w'.f0 w'.fh (List.getElem?_eq_getElem hlt) hy
    refine hs i ρ' _ (List.getElem?_eq_getElem hlt) hI B F2 H2 σ' x _ (hh'.step s2) hv fun ρ3 σ3 z hh3 _ => ?_
    refine z B F1 F2 H2 σ3 _ (w'.step s2) hh3 ⟨fun ρ4 F4 H4 σ4 r4 w4 h4 => ⟨ρ4, F4, r4, w4, h4⟩, fun r v F4 H4 r4 w4 h4 => p.rt r v F4 H4 r4 (w1.rebase w4) h4, fun ρ4 F4 H4 σ4 r4 w4 h4 => p.nx ρ4 F4 H4 σ4 r4 (w1.rebase w4) h4, fun ρ4 F4 H4 σ4 r4 w4 h4 => ⟨ρ4, F4, r4, w4, h4⟩⟩
  · have e : i = items.length := by omega
    subst e
    exact .inl ⟨it.st F' H' w'.f0 w'.fh, p.nx ρ' F' H' σ' (hd ρ' hI) (w1.rebase w') hh'⟩
theorem ds_while {body : List Stmt} (I : List Sl → Prop) (μ : List Sl → Nat) (h0 : I ρ)
    (hs : ∀ ρ', I ρ' → ∃ k, DT X c ρ' k ∧ (k = true → DSs X body ρ' fun o => match o with | .nx ρ2 => I ρ2 ∧ μ ρ2 < μ ρ' | .ct ρ2 => I ρ2 ∧ μ ρ2 < μ ρ' | .bk ρ2 => R (.nx ρ2) | .rt r => R (.rt r)) ∧ (k = false → R (.nx ρ')))
    (hp : ∀ j, PassesOwn (model (X.X j).prog (X.X j).w) (X.X j).A (X.X j).env (X.X j).xe := by exact fun _ => PassesOwn.never) : DS X (.While c body [] pos) ρ R := fun B F0 F H σ D w hh p => by
  refine ⟨tWhile (WT X c) (WSs X body), fun j => ps_while (hp j) (pt_w j) (pss_w j), ?_⟩
  refine ⟨fun m σ' H' => ∃ ρ' F', m = μ ρ' ∧ I ρ' ∧ Wd B F0 F' H' ∧ Hd K B F' H' ρ' σ', ⟨_, ρ, F, rfl, h0, w, hh⟩, ?_⟩
  rintro m σ' H' ⟨ρ', F', rfl, hI, w', hh'⟩
  obtain ⟨k, hk, h1, h2⟩ := hs ρ' hI
  refine hk B F' H' σ' _ hh' fun F2 H2 s2 => ?_
  cases k with
  | true =>
    refine iteT ⟨fun σ3 H3 => ∃ ρ3 F3, I ρ3 ∧ μ ρ3 < μ ρ' ∧ Wd B F0 F3 H3 ∧ Hd K B F3 H3 ρ3 σ3, fun σ3 H3 ⟨ρ3, F3, z1, z2, z3, z4⟩ => ⟨_, z2, ρ3, F3, rfl, z1, z3, z4⟩, ?_⟩
    refine h1 rfl B F0 F2 H2 σ' _ (w'.step s2) (hh'.step s2) ⟨fun ρ4 F4 H4 σ4 r4 w4 h4 => ⟨ρ4, F4, r4.1, r4.2, w4, h4⟩, fun r v F4 H4 r4 w4 h4 => p.rt r v F4 H4 r4 w4 h4, fun ρ4 F4 H4 σ4 r4 w4 h4 => p.nx ρ4 F4 H4 σ4 r4 w4 h4, fun ρ4 F4 H4 σ4 r4 w4 h4 => ⟨ρ4, F4, r4.1, r4.2, w4, h4⟩⟩
  | false => exact iteF (p.nx ρ' F2 H2 σ' (h2 rfl) (w'.step s2) (hh'.step s2))

/-! ### comprehensions -/
def wipeS (vs : List Nat) (ρ : List Sl) : List Sl := vs.foldr (fun i r => r.set i .any) ρ
theorem Hd.wipe {B F H : Hp} {σ : L2.St} (h : Hd K B F H ρ σ) : ∀ (vs : List Nat), Hd K B F H (wipeS vs ρ) (L2.wipe σ vs)
  | [] => h
  | v :: vs => (h.wipe vs).forget v none
theorem wipe_in {σ : L2.St} {i : Nat} : ∀ {vs : List Nat}, i ∈ vs → i < σ.length → (wipe σ vs)[i]? = some none
  | [], h, _ => nomatch h
  | v :: vs, h, hl => by
    show ((wipe σ vs).set v none)[i]? = some none
    by_cases e : v = i
    · subst e
      rw [List.getElem?_set_self (by rw [wipe_length]; exact hl)]
    · rw [List.getElem?_set_ne e]
      exact wipe_in (by rcases List.mem_cons.mp h with z | z; exact absurd z.symm e; exact z) hl
theorem wipe_same {σ σ' : L2.St} {ts vs : List Nat} (h : Same1 ts (wipe σ vs) σ') (hs : ∀ k, k ∈ ts → k ∈ vs) : wipe σ' vs = wipe σ vs := by
  have hl : σ'.length = σ.length := h.1.trans (wipe_length σ vs)
  apply List.ext_getElem?
  intro k
  by_cases hk : k ∈ vs
  · by_cases hlt : k < σ.length
    · rw [wipe_in hk (by rw [hl]; exact hlt), wipe_in hk hlt]
    · rw [List.getElem?_eq_none (by rw [wipe_length, hl]; omega), List.getElem?_eq_none (by rw [wipe_length]; omega)]
  · rw [wipe_out hk, h.2 k fun m => hk (hs k m)]
def WTs (X : Fam K) (e : List Expr) : TT := fun σ H Q => ∃ t, (∀ j, PTs (X.X j) e t) ∧ t σ H Q
theorem pts_w {es : List Expr} (j : X.ι) : PTs (X.X j) es (WTs X es) := ⟨fun pins s σ H Q I ⟨t, h, q⟩ => (h j).run pins s σ H Q I q⟩
def DTs (X : Fam K) (e : List Expr) (ρ : List Sl) (b : Bool) : Prop := ∀ B F H σ (Q : Bool → Hp → Prop), Hd K B F H ρ σ → (∀ F' H', Stp F H F' H' → Q b H') → WTs X e σ H Q
theorem dts_nil : DTs X [] ρ true := fun B F H σ Q hh q => ⟨_, fun _ => pts_nil, q F H (Stp.refl hh.fh)⟩
theorem dts_one {k : Bool} (h : DT X c ρ k) : DTs X [c] ρ k := fun B F H σ Q hh q => ⟨WT X c, fun j => pts_one (pt_w j), h B F H σ Q hh q⟩
theorem pe_lcF {X : Fam K} {elt tg iter : Expr} {ifs : List Expr} {scope : Scope} {own : List (Str × Nat)} (hc : ∀ j, (X.X j).calm = true) (hN : ∀ j, (X.X j).N.Nodup) (ok : ∀ j, BlkOk (X.X j).N (X.X j).env.scope scope own) (hs : ∀ j x, foldedSetIterable iter (X.X j).env x = pure x) (j : X.ι) :
    PE (X.X j) (.ListComp elt [⟨tg, iter, ifs, 0⟩] scope pos) (tLc (WI X tg iter) (WG (X.blk scope) tg) (WTs (X.blk scope) ifs) (WE (X.blk scope) elt) (own.map (·.2))) :=
  pe_lc (hc j) (hN j) (pi_w j) (ok j) (fun s H C cl fp => pg_w (X := X.blk scope) (j, s, H, C, cl, fp)) (fun s H C cl fp => pts_w (X := X.blk scope) (j, s, H, C, cl, fp)) (fun s H C cl fp => pe_w (X := X.blk scope) (j, s, H, C, cl, fp)) (hs j)
theorem tLc_data {α : Type} {xs : List α} {g f : α → D} {q : α → Bool} {X : Fam K} {elt tg iter : Expr} {ifs : List Expr} {scope : Scope} {vs ts : List Nat} (hi : DI X tg iter ρ (xs.map g)) (hts : ∀ k, k ∈ ts → k ∈ vs) (hlen : xs.length < 100000)
    (hs : ∀ x, x ∈ xs → DG (X.blk scope) tg (g x) (wipeS vs ρ) ts fun ρ2 => DTs (X.blk scope) ifs ρ2 (q x) ∧ (q x = true → DE (X.blk scope) elt ρ2 (f x)))
    (B F H : Hp) (σ : L2.St) (Q : VK) (hh : Hd K B F H ρ σ) (hq : ∀ p ws F' H', Stp F H F' H' → H p = none → F' p = none → H' p = some (.lst ws) → Dvs K F' ws ((xs.filter q).map f) → Q (.ref p) H') :
    tLc (WI X tg iter) (WG (X.blk scope) tg) (WTs (X.blk scope) ifs) (WE (X.blk scope) elt) vs σ H Q := by
  refine hi B F H σ _ hh fun J F1 H1 s1 it => ?_
  intro P hP
  have hh1 := hh.step s1
  refine ⟨fun i m H' => ∃ F' acc, i + m = xs.length ∧ Stp F1 H1 F' H' ∧ F' P = none ∧ H' P = some (.lst acc) ∧ Dvs K F' acc (((xs.take i).filter q).map f), ⟨xs.length, F1, [], Nat.zero_add _, Stp.own s1.fh hP, s1.fh.back hP, upd_same, .nil⟩, ?_⟩
  rintro i m H' ⟨F', acc, him, s', hfP, hHP, hacc⟩
  by_cases hlt : i < xs.length
  · have hgi : (xs.map g)[i]? = some (g xs[i]) := by rw [List.getElem?_map, List.getElem?_eq_getElem hlt]; rfl
    refine .inr ⟨it.go F' H' i s'.ff s'.fh (by rw [List.length_map]; exact hlt), fun H2 => ∃ F2 acc2, Stp F1 H1 F2 H2 ∧ F2 P = none ∧ H2 P = some (.lst acc2) ∧ Dvs K F2 acc2 (((xs.take (i + 1)).filter q).map f), fun H2 ⟨F2, acc2, z1, z2, z3, z4⟩ => ⟨m - 1, by omega, F2, acc2, by omega, z1, z2, z3, z4⟩, fun x H2 hy => ?_⟩
    obtain ⟨F2, s2, hv⟩ := it.yl F' H' i x H2 _ s'.ff s'.fh hgi hy
    have keepP : ∀ {Fa Ha Fb Hb : Hp}, Stp Fa Ha Fb Hb → Fa P = none → Ha P = some (.lst acc) → Fb P = none ∧ Hb P = some (.lst acc) := fun {Fa Ha Fb Hb} sp h1 h2 => by
      refine ⟨?_, sp.hh _ _ h2⟩
      cases z : Fb P with
      | none => rfl
      | some o =>
        rcases sp.nw P o z with y | y
        · rw [h1] at y; cases y
        · rw [h2] at y; cases y
    obtain ⟨f2, h2⟩ := keepP s2 hfP hHP
    have s12 := s'.trans s2
    have hw : Hd K B F2 H2 (wipeS vs ρ) (L2.wipe σ vs) := (hh1.step s12).wipe vs
    refine hs xs[i] (List.getElem_mem hlt) B F2 H2 _ x _ hw hv fun ρ3 σ3 z hh3 sm => ⟨wipe_same sm hts, ?_⟩
    refine z.1 B F2 H2 σ3 _ hh3 fun F3 H3 s3 => ?_
    obtain ⟨f3, h3⟩ := keepP s3 f2 h2
    have s13 := s12.trans s3
    have et : (xs.take (i + 1)).filter q = (xs.take i).filter q ++ (if q xs[i] = true then [xs[i]] else []) := by
      rw [List.take_succ, List.getElem?_eq_getElem hlt, List.filter_append]
      cases hqi : q xs[i] <;> simp [hqi]
    cases hqi : q xs[i] with
    | true =>
      refine iteT (z.2 hqi B F3 H3 σ3 _ (hh3.step s3) fun y F4 H4 s4 hy4 => ?_)
      obtain ⟨f4, h4⟩ := keepP s4 f3 h3
      have s14 := s13.trans s4
      have hal : acc.length < sizeLine := by
        rw [hacc.length, List.length_map]
        refine small_lt (Nat.lt_of_le_of_lt (List.length_filter_le _ _) ?_)
        rw [List.length_take]
        omega
      refine ⟨acc, h4, hal, F4, acc ++ [y], ⟨s14.ff, fun a o e => ?_, fun a o e => ?_, s14.nw⟩, f4, upd_same, ?_⟩
      · rw [upd_ne (ne_of_none e f4)]; exact s14.fh a o e
      · rw [upd_ne (ne_of_none e hP)]; exact s14.hh a o e
      · rw [et, hqi, if_pos rfl, List.map_append]
        exact (hacc.mono (s2.ff.trans (s3.ff.trans s4.ff))).snoc hy4
    | false =>
      refine iteF ⟨F3, acc, s13, f3, h3, ?_⟩
      rw [et, hqi, if_neg Bool.false_ne_true, List.append_nil]
      exact hacc.mono (s2.ff.trans s3.ff)
  · have e : i = xs.length := by omega
    subst e
    have hst := it.st F' H' s'.ff s'.fh
    rw [List.length_map] at hst
    rw [List.take_length] at hacc
    exact .inl ⟨hst, hq P acc F' H' (s1.trans s') (s1.hh.back hP) hfP hHP hacc⟩
/-- [elt for tg in iter if test], the block's own names by slot: own -/
theorem dl_lc {α : Type} {xs : List α} {g f : α → D} {q : α → Bool} {X : Fam K} {elt tg iter : Expr} {ifs : List Expr} {scope : Scope} (own : List (Str × Nat)) (hi : DI X tg iter ρ (xs.map g)) (hlen : xs.length < 100000)
    (hs : ∀ x, x ∈ xs → DG (X.blk scope) tg (g x) (wipeS (own.map (·.2)) ρ) (own.map (·.2)) fun ρ2 => DTs (X.blk scope) ifs ρ2 (q x) ∧ (q x = true → DE (X.blk scope) elt ρ2 (f x)))
    (hN : ∀ j, (X.X j).N.Nodup) (ok : ∀ j, BlkOk (X.X j).N (X.X j).env.scope scope own) (hc : ∀ j, (X.X j).calm = true := by intro _; rfl) (hf : ∀ j x, foldedSetIterable iter (X.X j).env x = pure x := by intro _ _; rfl) :
    DL X (.ListComp elt [⟨tg, iter, ifs, 0⟩] scope pos) ρ ((xs.filter q).map f) := fun B F H σ Q hh hq =>
  ⟨_, fun j => pe_lcF hc hN ok hf j, tLc_data hi (fun _ h => h) hlen hs B F H σ Q hh hq⟩
theorem dl_lc1 {α : Type} {xs : List α} {g f : α → D} {X : Fam K} {elt tg iter : Expr} {scope : Scope} (own : List (Str × Nat)) (hi : DI X tg iter ρ (xs.map g)) (hlen : xs.length < 100000)
    (hs : ∀ x, x ∈ xs → DG (X.blk scope) tg (g x) (wipeS (own.map (·.2)) ρ) (own.map (·.2)) fun ρ2 => DE (X.blk scope) elt ρ2 (f x))
    (hN : ∀ j, (X.X j).N.Nodup) (ok : ∀ j, BlkOk (X.X j).N (X.X j).env.scope scope own) (hc : ∀ j, (X.X j).calm = true := by intro _; rfl) (hf : ∀ j x, foldedSetIterable iter (X.X j).env x = pure x := by intro _ _; rfl) :
    DL X (.ListComp elt [⟨tg, iter, [], 0⟩] scope pos) ρ (xs.map f) := by
  have h := dl_lc (q := fun _ => true) (pos := pos) own hi hlen (fun x hx B F H σ v Q hh hv k => hs x hx B F H σ v Q hh hv fun ρ' σ' z => k ρ' σ' ⟨dts_nil, fun _ => z⟩) hN ok hc hf
  rw [List.filter_eq_self.mpr fun _ _ => rfl] at h
  exact h

/-! ### a def -/
theorem start_len (N : List Str) (vs : List V) (h : vs.length ≤ N.length) : (L2.start N vs).length = N.length := by
  unfold L2.start
  rw [List.length_append, List.length_map, List.length_replicate]
  omega
def startS (N : List Str) (ds : List D) : List Sl := ds.map Sl.val ++ List.replicate (N.length - ds.length) .any
theorem start_hd {N : List Str} {F H : Hp} {vs : List V} {ds : List D} (e : Ex F H) (h : Dvs K F vs ds) : Hd K H F H (startS N ds) (L2.start N vs) where
  fh := e
  val := fun i d q => by
    unfold startS at q
    by_cases hi : i < ds.length
    · rw [List.getElem?_append_left (by rw [List.length_map]; exact hi), List.getElem?_map, List.getElem?_eq_getElem hi] at q
      cases q
      obtain ⟨v, h1, h2⟩ := h.get (List.getElem?_eq_getElem hi)
      refine ⟨v, ?_, h2⟩
      unfold L2.start
      rw [List.getElem?_append_left (by rw [List.length_map, h.length]; exact hi), List.getElem?_map, h1]
      rfl
    · rw [List.getElem?_append_right (by rw [List.length_map]; omega), List.getElem?_replicate] at q
      split at q <;> cases q
  own := fun i d q => by
    unfold startS at q
    by_cases hi : i < ds.length
    · rw [List.getElem?_append_left (by rw [List.length_map]; exact hi), List.getElem?_map, List.getElem?_eq_getElem hi] at q
      cases q
    · rw [List.getElem?_append_right (by rw [List.length_map]; omega), List.getElem?_replicate] at q
      split at q <;> cases q
  sep := fun i _ d _ _ q => by
    unfold startS at q
    by_cases hi : i < ds.length
    · rw [List.getElem?_append_left (by rw [List.length_map]; exact hi), List.getElem?_map, List.getElem?_eq_getElem hi] at q
      cases q
    · rw [List.getElem?_append_right (by rw [List.length_map]; omega), List.getElem?_replicate] at q
      split at q <;> cases q
  len := by
    unfold startS L2.start
    rw [List.length_append, List.length_append, List.length_map, List.length_map, List.length_replicate, List.length_replicate, h.length]
/-- what a body is to reach -/
def Ret (R : Rs → Prop) : Out → Prop
  | .rt r => R r
  | .nx _ => R (.val .non)
  | _ => False
theorem fn_data {P : Program} {w : World} {mg : Str → Option Value} {base : Heap} {x qual : Str} {st : Stmt} {f : Addr} {fd : FuncData} {N ps : List Str} {k : Nat} {φ : SpecD} (Fu : Fun K x qual st f fd) (S : FnScope N ps (defScope st)) (hl : ∀ ds R, φ ds R → ds.length = ps.length)
    (body : ∀ (cdv : Value) (A : Around) (outer : List Env) (s : Shared) (H : Hp) (E : XK), Room k (A.deeper (envOfC qual (defScope st) s.heap.objs.size f cdv)) → ∀ ds R, φ ds R →
      DSs (K := K) ⟨Unit, fun _ => (cxOf CX0 P w K mg base N qual (defScope st) f cdv A outer s H E).nox, fun _ => rfl⟩ (defBody st) (startS N ds) (Ret R)) : FnOk P w K mg base CX0 (k + 1) f fd ps (spD K φ) := by
  refine Fu.ok S (fun vs H Q E h => ?_) (fun cdv A outer s H vs Q E hr h => ?_)
  · obtain ⟨F, ds, r, e, hv, hφ, _⟩ := h
    rw [hv.length]; exact hl ds r hφ
  · obtain ⟨F, ds, R, e, hv, hφ, q⟩ := h
    obtain ⟨t, h1, h2⟩ := body cdv A outer s H E hr ds R hφ H F F H (L2.start N vs) { nx := fun _ H' => Q .non H', rt := Q } ⟨Ex.refl F, e, Ex.refl H, fun _ _ z => .inl z⟩ (start_hd e hv)
      ⟨fun ρ F' H' σ z w' hh => q (.val .non) _ F' H' z w' .non, fun r' v F' H' z w' hr' => q r' v F' H' z w' hr', fun _ _ _ _ z => z.elim, fun _ _ _ _ z => z.elim⟩
    exact ⟨t, h1 (), h2⟩
/-- x = f(..), whatever it answers -/
theorem ds_setC (i : Nat) {x y : Str} {p' p : Pos} {φ : SpecD} {es : List Expr} {ds : List D} (Fk : Has X y φ) (ha : DA X (e :: es) ρ ds) (hφ : φ ds fun r => match r with | .val d => R (.nx (ρ.set i (.val d))) | .new os => R (.nx (ρ.set i (.own os)))) (hN : ∀ j, (X.X j).N.Nodup) {cpos : Pos} (hi : ∀ j, (X.X j).N[i]? = some x := by intro _; rfl) (hx : ∀ j, Loc (X.X j).env.scope x := by first | exact fun _ => Or.inl rfl | exact fun _ => Or.inr rfl)
    (hs : ∀ j, swapsWith (.Call (.Name y p) (e :: es) [] cpos) (some (.Name x p')) pos.line (X.X j).env = pure false := by intro _; rfl) (hf : ∀ j, (X.X j).fn x = true ∨ (X.X j).env.scope.names.lookup x = some .local := by first | exact fun _ => .inl rfl | exact fun _ => .inr rfl)
    (hg : ∀ j, Gl (X.X j) y := by intro _; rfl)
    (hdb : (y == ("__debug__" : Str)) = false := by decide) (he : ∀ j, starEach (e :: es) (X.X j).env = (false, eval e (X.X j).env) :: starEach es (X.X j).env := by intro _; rfl) (hpl : ∀ j, (backTo cpos (starEach es (X.X j).env)).any (·.1) = false := by intro _; rfl) :
    DS X (.Assign [.Name x p'] (.Call (.Name y p) (e :: es) [] cpos) pos) ρ R := fun B F0 F H σ D w hh p =>
  ⟨tAsg (WE X _) (gName i), fun j => ps_set (hN j) (hi j) (hx j) (pe_w j) (hs j) (hf j), we_call Fk ha hφ hg hdb he hpl hh fun r v F' H' hr s rv => by
    cases r with
    | val d => exact p.nx _ F' H' _ hr (w.step s) ((hh.step s).set rv i)
    | new os =>
      obtain ⟨q, vs, rfl, e1, e2, e3, e4⟩ := rv
      exact p.nx _ F' H' _ hr (w.step s) ((hh.step s).setOwn (i := i) (w.bh.back e1) e2 e3 e4 (fun j es ej _ => hh.fresh e1 j es ej) rfl)⟩
theorem ds_retC {y : Str} {p : Pos} {φ : SpecD} {es : List Expr} {ds : List D} (Fk : Has X y φ) (ha : DA X (e :: es) ρ ds) (hφ : φ ds fun r => R (.rt r)) {cpos : Pos}
    (hg : ∀ j, Gl (X.X j) y := by intro _; rfl)
    (hdb : (y == ("__debug__" : Str)) = false := by decide) (he : ∀ j, starEach (e :: es) (X.X j).env = (false, eval e (X.X j).env) :: starEach es (X.X j).env := by intro _; rfl) (hpl : ∀ j, (backTo cpos (starEach es (X.X j).env)).any (·.1) = false := by intro _; rfl) :
    DS X (.Return (some (.Call (.Name y p) (e :: es) [] cpos)) pos) ρ R := fun B F0 F H σ D w hh p =>
  ⟨tRet (WE X _), fun j => ps_ret (pe_w j), we_call Fk ha hφ hg hdb he hpl hh fun r v F' H' hr s rv => p.rt r v F' H' hr (w.step s) (by
    cases r with
    | val d => exact rv
    | new os =>
      obtain ⟨q, vs, rfl, e1, e2, e3, e4⟩ := rv
      exact ⟨q, vs, rfl, w.bh.back e1, e2, e3, e4⟩)⟩
end
end Yp

namespace Yp
open PySem PySem.Spec PyProof.Rows L2
section
variable {K : PySem.W.Frag} {X : Fam K} {ρ : List Sl} {R R' : Out → Prop} {st : Stmt} {rest : List Stmt} {a b c e : Expr} {da db dc d : D} {pos : Pos}
/-! ### isinstance -/
def tyName : D → String
  | .non => "NoneType" | .bl _ => "bool" | .int _ => "int" | .str _ => "str" | .lst _ => "list" | .tup _ => "tuple" | .dct _ => "dict"
def isTy (d : D) (T : String) : Bool := tyName d == T || (tyName d == "bool" && T == "int")
theorem kit_tab : ∀ a ∈ ["NoneType", "bool", "int", "str", "list", "tuple", "dict"], ∀ T ∈ ["int", "bool", "str", "list", "tuple"], kitB a T = some (a == T || (a == "bool" && T == "int")) := by decide +kernel
theorem kit_isTy (d : D) {T : String} (h : T ∈ ["int", "bool", "str", "list", "tuple"]) : kitB (tyName d) T = some (isTy d T) := by
  refine kit_tab (tyName d) ?_ T h
  cases d <;> simp [tyName]
theorem Dv.tyX {F H : Hp} {v : V} (e : Ex F H) (h : Dv K F v d) : TyX K H v (.type (tyName d)) := by
  cases h with
  | non => exact .base .non
  | bl b => exact .base (.bl b)
  | int i => exact .base (.int i)
  | str s => exact .base (.str s)
  | lst hs _ =>
    rcases e.sqL hs with (h | ⟨o, h⟩) | ⟨o, its, n, h1, h2, _⟩
    · exact .base (.lst h)
    · exact .base (.frz h)
    · exact .kList h1 h2
  | tup hs _ =>
    rcases e.sqT hs with (h | ⟨o, h⟩) | ⟨o, its, n, h1, h2, _⟩
    · exact .base (.tup h)
    · exact .fTuple h
    · exact .kTuple h1 h2
  | dct hs _ => exact .base (.dK (e _ _ hs))
theorem call_isiK2 {Y : Cx} (hk : Y.K = K) : CallR Y (.builtin "isinstance") (rIsi K) := by subst hk; exact call_isi
theorem de_isi {T : String} {x : Str} {p p2 : Pos} (ha : DE X a ρ d) (hm : ∀ j, (X.X j).mg "isinstance" = none) (hm2 : ∀ j, (X.X j).mg x = none) (hv : bootBuiltins x = some (.type T)) (hT : T ∈ ["int", "bool", "str", "list", "tuple"] := by decide)
    (hg : ∀ j, Gl (X.X j) "isinstance" := by intro _; rfl) (hg2 : ∀ j, Gl (X.X j) x := by intro _; rfl) (hn : x ≠ "__name__" := by decide) (hdb : (x == ("__debug__" : Str)) = false := by decide)
    (he : ∀ j, starEach [a, .Name x p2] (X.X j).env = (false, eval a (X.X j).env) :: starEach [.Name x p2] (X.X j).env := by intro _; rfl)
    (he2 : ∀ j, starEach [.Name x p2] (X.X j).env = (false, eval (.Name x p2) (X.X j).env) :: starEach [] (X.X j).env := by intro _; rfl)
    (hpl : ∀ j, (backTo pos (starEach [.Name x p2] (X.X j).env)).any (·.1) = false := by intro _; rfl) :
    DE X (.Call (.Name "isinstance" p) [a, .Name x p2] [] pos) ρ (.bl (isTy d T)) := fun B F H σ Q hh q =>
  ⟨tCB (rIsi K) (tCons (WE X a) (tCons (tC (.ty T)) tNil)), fun j => pe_callB (call_isiK2 (X.hK j)) (hg j) (hm j) (by decide +kernel) (pa_cons (pe_w j) (pa_cons (pe_bltn (hg2 j) (hm2 j) hv rfl hn hdb) pa_nil (he2 j)) (he j)) (by decide) (by decide) (he j) (hpl j),
    ha B F H σ _ hh fun v F' H' s hv' => ⟨v, .ty T, _, _, _, rfl, .ty T, hv'.tyX s.fh, kit_ty (kit_isTy d hT), q _ F' H' s (.bl _)⟩⟩

/-- the law itself, called with the script -/
theorem law_start {K : PySem.W.Frag} {H : Hp} {a : Addr} {ns : List Int} {E : XK} {φ : SpecD} (hS : SqL K H a (ns.map V.int)) (hφ : ∀ R : Rs → Prop, R (.val (.bl true)) → φ [.lst (ns.map .int)] R) : spD K φ [.ref a] H (fun v _ => v = .bl true) E :=
  ⟨H, _, fun r => r = .val (.bl true), Ex.refl H, .cons (.lst hS .of_ints) .nil, hφ _ rfl, fun r v F' H' hr w rv => by subst hr; cases rv; rfl⟩
end
end Yp

set_option maxHeartbeats 4000000
namespace K01
open PySem PySem.Spec PyProof.Rows L2 Yp
def topS (i : Nat) : Stmt := PySem.Challenge.pw_yesterpost_k01_names.main.body.getD i (.Pass ⟨0, 0, 0, 0⟩)
abbrev sFeed : Stmt := topS 3
theorem scFeed : FnScope ["_law_script", "_law_feed_here", "_law_cell", "_law_left", "_law_turn", "_law_seed"] ["_law_script"] (defScope sFeed) := ⟨rfl, rfl, rfl, by decide +kernel, rfl, by decide +kernel, by decide +kernel⟩
def Rng (ns : List Int) : Prop := ∀ n ∈ ns, 0 ≤ n ∧ n < 55440
def Feed (ns : List Int) : Prop := 270 ≤ ns.length ∧ ns.length ≤ 1000 ∧ Rng ns
def fFeed : SpecD := fun ds R => ∃ xs : List Int, ds = [.lst (xs.map .int)] ∧ ∀ ns, Feed ns → R (.new (ns.map .int))
theorem Rng.snoc {ns : List Int} {n : Int} (h : Rng ns) (h1 : 0 ≤ n) (h2 : n < 55440) : Rng (ns ++ [n]) := fun m hm => by
  rcases List.mem_append.mp hm with z | z
  · exact h m z
  · rw [List.mem_singleton.mp z]; exact ⟨h1, h2⟩
theorem map_snoc (ns : List Int) (n : Int) : ns.map D.int ++ [D.int n] = (ns ++ [n]).map D.int := by rw [List.map_append]; rfl
section
variable {P : Program} {w : World} {K : PySem.W.Frag} {mg : Str → Option Value} {base : Heap}
theorem ok_feed {f : Addr} {fd : FuncData} {k : Nat} (F : Fun K "_law_feed" "_law_feed" sFeed f fd) (mLen : mg "len" = none) (mAbs : mg "abs" = none) (mRange : mg "range" = none) (mInt : mg "int" = none) (mSum : mg "sum" = none) :
    FnOk P w K mg base CX0 (k + 1) f fd ["_law_script"] (spD K fFeed) := by
  refine fn_data F scFeed (fun ds R h => ?_) (fun cdv A outer s H E hr ds R h => ?_)
  · obtain ⟨xs, rfl, _⟩ := h; rfl
  · obtain ⟨xs, rfl, q⟩ := h
    have nd := scFeed.nd
    refine dss_cons (ds_setL 1 (dl_lst da_nil) ?_ (fun _ => nd))
    refine dss_cons (ds_for [2] (fun i ρ => ∃ (ns : List Int) (c2 c3 c4 c5 : Sl), ρ = [.val (.lst (xs.map .int)), .own (ns.map .int), c2, c3, c4, c5] ∧ ns.length ≤ 329 ∧ Rng ns) (di_list (de_var 0 rfl)) ⟨[], .any, .any, .any, .any, rfl, Nat.zero_le _, fun _ h => nomatch h⟩ ?_ ?_)
    · rintro i ρ' d hd ⟨ns, c2, c3, c4, c5, rfl, hl, hr'⟩
      obtain ⟨c, rfl⟩ : ∃ c, d = .int c := by
        rw [List.getElem?_map] at hd
        cases z : xs[i]? with
        | none => rw [z] at hd; cases hd
        | some c => rw [z] at hd; exact ⟨c, (Option.some.inj hd).symm⟩
      refine dg_name 2 ?_ (fun _ => nd)
      refine dss_cons (ds_if (dt_borrow 1 rfl (dt_cmp (de_callB ca_lenL (fun _ => mLen) PySem.boot_len (da_cons (de_var 1 rfl) da_nil)) de_int cm_lt)) (fun hk => ?_) (fun hk => ?_))
      · have hk' := of_decide_eq_true hk
        rw [List.length_map] at hk'
        have hlt : ns.length < 270 := by omega
        refine dss_cons (ds_set 3 (de_callB ca_abs (fun _ => mAbs) (by decide +kernel) (da_cons (de_var 2 rfl) da_nil)) ?_ (fun _ => nd))
        refine dss_cons (ds_if (dt_cmp (de_var 3 rfl) (de_bin de_int de_int (opd_pow ⟨by decide, by decide, by decide⟩)) cm_ge) (fun hb => ?_) (fun hb => ?_))
        · refine dss_cons (ds_for [4] (fun j ρ => ∃ (ds : List D) (ns : List Int) (l : Int) (c4 : Sl), ρ = [.val (.lst (xs.map .int)), .own ds, .val (.int c), .val (.int l), c4, c5] ∧ ds = ns.map .int ∧ ns.length ≤ 269 + j ∧ 0 ≤ l ∧ Rng ns) (di_range1 de_int (fun _ => mRange)) ⟨_, ns, _, c4, rfl, rfl, by omega, by split <;> omega, hr'⟩ ?_ ?_)
          · rintro j ρ' d hd ⟨_, ns, l, c4, rfl, rfl, hl, h0, hr'⟩
            obtain ⟨hj, rfl⟩ := rangeD_get hd
            have hj' : j < 60 := hj
            refine dg_name 4 ?_ (fun _ => nd)
            refine dss_cons (ds_if (dt_cmp (de_var 3 rfl) de_int cm_gt) (fun hp => ?_) (fun hp => ?_))
            · refine dss_cons (ds_append 1 rfl (de_bin (de_var 3 rfl) de_int (opd_mod (by decide))) (by rw [List.length_map]; omega) ?_)
              refine dss_cons (ds_set 3 (de_bin (de_var 3 rfl) de_int (opd_div ⟨by decide, by decide⟩)) ?_ (fun _ => nd))
              exact dss_nil (dss_nil ⟨_, _, _, _, rfl, map_snoc _ _, by rw [List.length_append]; show ns.length + 1 ≤ _; omega, by omega, hr'.snoc (by omega) (by omega)⟩)
            · exact dss_nil (dss_nil ⟨_, ns, l, _, rfl, rfl, by omega, h0, hr'⟩)
          · rintro ρ' ⟨_, ns, l, c4, rfl, rfl, hl, h0, hr'⟩
            rw [rangeD_len] at hl
            exact dss_nil (dss_nil (dss_nil ⟨ns, _, _, _, _, rfl, hl, hr'⟩))
        · refine dss_cons (ds_set 5 (de_bin (de_bin (de_bin (de_bin (de_bin de_int (de_var 3 rfl) (opd_mul (.inl ⟨by decide, by decide⟩))) (de_callTy ca_intB (fun _ => mInt) (by decide +kernel) (da_cons (de_cmp (de_var 2 rfl) de_int cm_lt) da_nil)) opd_add) de_int (opd_mul (.inr ⟨by decide, by decide⟩))) de_int opd_add) de_int (opd_mod (by decide))) ?_ (fun _ => nd))
          refine dss_cons (ds_for [4] (fun j ρ => ∃ (ds : List D) (ns : List Int) (sd : Int) (c4 : Sl), ρ = [.val (.lst (xs.map .int)), .own ds, .val (.int c), .val (.int (if c < 0 then -c else c)), c4, .val (.int sd)] ∧ ds = ns.map .int ∧ ns.length ≤ 269 + j ∧ Rng ns) (di_range1 de_int (fun _ => mRange)) ⟨_, ns, _, c4, rfl, rfl, by omega, hr'⟩ ?_ ?_)
          · rintro j ρ' d hd ⟨_, ns, sd, c4, rfl, rfl, hl, hr'⟩
            obtain ⟨hj, rfl⟩ := rangeD_get hd
            have hj' : j < 6 := hj
            refine dg_name 4 ?_ (fun _ => nd)
            refine dss_cons (ds_set 5 (de_bin (de_bin (de_bin (de_var 5 rfl) de_int (opd_mul (.inr ⟨by decide, by decide⟩))) de_int opd_add) de_int (opd_mod (by decide))) ?_ (fun _ => nd))
            refine dss_cons (ds_append 1 rfl (de_bin (de_bin (de_var 5 rfl) de_int (opd_div ⟨by decide, by decide⟩)) de_int (opd_mod (by decide))) (by rw [List.length_map]; omega) ?_)
            exact dss_nil ⟨_, _, _, _, rfl, map_snoc _ _, by rw [List.length_append]; show ns.length + 1 ≤ _; omega, hr'.snoc (by omega) (by omega)⟩
          · rintro ρ' ⟨_, ns, sd, c4, rfl, rfl, hl, hr'⟩
            rw [rangeD_len] at hl
            have hl' : ns.length ≤ 275 := hl
            exact dss_nil (dss_nil (dss_nil ⟨ns, _, _, _, _, rfl, by omega, hr'⟩))
      · exact dss_nil (dss_nil ⟨ns, _, _, _, _, rfl, hl, hr'⟩)
    · rintro ρ' ⟨ns, c2, c3, c4, c5, rfl, hl, hr'⟩
      refine dss_cons (ds_set 5 (de_borrow 1 rfl rfl (de_bin (de_bin de_int (de_callB ca_lenL (fun _ => mLen) PySem.boot_len (da_cons (de_var 1 rfl) da_nil)) opd_add) (de_callB (ca_sum (fun _ => rfl)) (fun _ => mSum) (by decide +kernel) (da_cons (de_var 1 rfl) da_nil)) opd_add)) ?_ (fun _ => nd))
      refine dss_cons (ds_for [4] (fun j ρ => ∃ (ds : List D) (ms : List Int) (sd : Int) (c4 : Sl), ρ = [.val (.lst (xs.map .int)), .own ds, c2, c3, c4, .val (.int sd)] ∧ ds = ms.map .int ∧ ms.length = ns.length + j ∧ Rng ms) (di_range1 (de_bin de_int (de_borrow 1 rfl rfl (de_callB ca_lenL (fun _ => mLen) PySem.boot_len (da_cons (de_var 1 rfl) da_nil))) opd_sub) (fun _ => mRange) (by rw [List.length_map]; omega) (by omega)) ⟨_, ns, _, c4, rfl, rfl, rfl, hr'⟩ ?_ ?_)
      · rintro j ρ' d hd ⟨_, ms, sd, c4, rfl, rfl, hl2, hr2⟩
        obtain ⟨hj, rfl⟩ := rangeD_get hd
        rw [List.length_map] at hj
        have hj' : j < 270 := by omega
        refine dg_name 4 ?_ (fun _ => nd)
        refine dss_cons (ds_set 5 (de_bin (de_bin (de_bin (de_var 5 rfl) de_int (opd_mul (.inr ⟨by decide, by decide⟩))) de_int opd_add) de_int (opd_mod (by decide))) ?_ (fun _ => nd))
        refine dss_cons (ds_append 1 rfl (de_bin (de_bin (de_var 5 rfl) de_int (opd_div ⟨by decide, by decide⟩)) de_int (opd_mod (by decide))) (by rw [List.length_map]; omega) ?_)
        exact dss_nil ⟨_, _, _, _, rfl, map_snoc _ _, by rw [List.length_append]; show ms.length + 1 = _; omega, hr2.snoc (by omega) (by omega)⟩
      · rintro ρ' ⟨_, ms, sd, c4, rfl, rfl, hl2, hr2⟩
        rw [rangeD_len, List.length_map] at hl2
        exact dss_cons (ds_retO 1 rfl (q ms ⟨by omega, by omega, hr2⟩))
end
end K01

namespace K01
open PySem PySem.Spec PyProof.Rows L2 Yp
abbrev sName : Stmt := topS 1
abbrev sSign : Stmt := topS 4
abbrev sLaw : Stmt := topS 5
theorem scName : FnScope ["word", "sign"] ["word"] (defScope sName) := ⟨rfl, rfl, rfl, by decide +kernel, rfl, by decide +kernel, by decide +kernel⟩
theorem scSign : FnScope ["_law_number", "_law_small", "_law_other"] ["_law_number"] (defScope sSign) := ⟨rfl, rfl, rfl, by decide +kernel, rfl, by decide +kernel, by decide +kernel⟩
theorem scLaw : FnScope ["_law_script", "_law_feed_here", "_law_word", "_law_good", "_law_k", "_law_sign_here", "_law_found"] ["_law_script"] (defScope sLaw) := ⟨rfl, rfl, rfl, by decide +kernel, rfl, by decide +kernel, by decide +kernel⟩
abbrev sg (c : Nat) : Str := ⟨#[c]⟩
def okc (c : Nat) : Bool := (!decide ((sg c).cps.toList < (Str.ofString "a").cps.toList)) && (!decide ((Str.ofString "z").cps.toList < (sg c).cps.toList))
def nameB (z : Str) : Bool := ((decide ((1 : Int) ≤ (z.length : Int))) && (decide ((z.length : Int) ≤ 8))) && (z.cps.toList.map okc).all id
def fName : SpecD := fun ds R => ∃ z : Str, ds = [.str z] ∧ z.length ≤ 1000 ∧ R (.val (.bl (nameB z)))
def fSign : SpecD := fun ds R => ∃ n : Int, ds = [.int n] ∧ 0 ≤ n ∧ ∀ c : Nat, R (.val (.str (sg c)))
theorem atI_some {α : Type} {xs : List α} {i : Int} (h0 : 0 ≤ i) (h1 : i < xs.length) : ∃ x, atI xs i = some x ∧ x ∈ xs := by
  have hl : i.toNat < xs.length := by omega
  refine ⟨xs[i.toNat], ?_, List.getElem_mem hl⟩
  have e : i = ((i.toNat : Nat) : Int) := by omega
  have z := atI_nat (List.getElem?_eq_getElem hl)
  rw [← e] at z
  exact z
section
variable {P : Program} {w : World} {K : PySem.W.Frag} {mg : Str → Option Value} {base : Heap}
theorem ok_name {f : Addr} {fd : FuncData} {k : Nat} (F : Fun K "is_name" "is_name" sName f fd) (mLen : mg "len" = none) (mAll : mg "all" = none) :
    FnOk P w K mg base CX0 (k + 1) f fd ["word"] (spD K fName) := by
  refine fn_data F scName (fun ds R h => ?_) (fun cdv A outer s H E hr ds R h => ?_)
  · obtain ⟨xs, rfl, _⟩ := h; rfl
  · obtain ⟨z, rfl, hl, q⟩ := h
    have nd := scName.nd
    have hz : z.length ≤ sizeLine := small (by omega)
    refine dss_cons (ds_ret (de_and (de_chain de_int (de_callB (ca_lenS hz) (fun _ => mLen) PySem.boot_len (da_cons (de_var 0 rfl) da_nil)) cm_le (fun _ => de_int) (fun _ => cm_le))
      fun _ => de_one (de_callB (ca_all (ns := z.cps.toList.map okc) (fun _ => rfl)) (fun _ => mAll) (by decide +kernel) (da_cons ((dl_lc1 (xs := z.cps.toList) (f := fun c => .bl (okc c)) [("sign", 1)] (di_str (de_var 0 rfl)) (by
        have : z.cps.toList.length = z.length := by simp [Str.length]
        omega) (fun c hc => dg_name 1 ?_ (fun _ => nd)) (fun _ => nd) (fun _ => blkOk_by (N := ["word", "sign"]) (sc := defScope sName) (by decide +kernel))).de.is ?_) da_nil))) q)
    · exact de_chain de_str (de_var 1 rfl) cm_leS (fun _ => de_str) (fun _ => cm_leS)
    · rw [List.map_map]; rfl
theorem ok_sign {f : Addr} {fd : FuncData} {k : Nat} (F : Fun K "_law_sign" "_law_sign" sSign f fd) (mLen : mg "len" = none) :
    FnOk P w K mg base CX0 (k + 1) f fd ["_law_number"] (spD K fSign) := by
  refine fn_data F scSign (fun ds R h => ?_) (fun cdv A outer s H E hr ds R h => ?_)
  · obtain ⟨xs, rfl, _⟩ := h; rfl
  · obtain ⟨n, rfl, h0, q⟩ := h
    have nd := scSign.nd
    refine dss_cons (ds_set 1 de_str ?_ (fun _ => nd))
    refine dss_cons (ds_set 2 de_str ?_ (fun _ => nd))
    refine dss_cons (ds_if (dt_cmp (de_bin (de_var 0 rfl) de_int (opd_mod (by decide))) de_int cm_eqI) (fun hk => ?_) (fun hk => ?_))
    · obtain ⟨c, hc, _⟩ : ∃ x, atI (Str.ofString " !\"#$&'()*+,-./0123456789:;<=>?@ABCDEFGHIJKLMNOPQRSTUVWXYZ[\\]^_`{|}~\n").cps.toList (n / 5 % ((Str.ofString " !\"#$&'()*+,-./0123456789:;<=>?@ABCDEFGHIJKLMNOPQRSTUVWXYZ[\\]^_`{|}~\n").length : Int)) = some x ∧ _ :=
        atI_some (Int.emod_nonneg _ (by decide +kernel)) (Int.lt_of_lt_of_le (Int.emod_lt_of_pos _ (by decide +kernel)) (by decide +kernel))
      exact dss_cons (ds_ret (de_ixS (de_var 2 rfl) (de_bin (de_bin (de_var 0 rfl) de_int (opd_div ⟨by decide, by decide⟩)) (de_callB (ca_lenS (by decide +kernel)) (fun _ => mLen) PySem.boot_len (da_cons (de_var 2 rfl) da_nil)) (opd_mod (by decide +kernel))) (by decide +kernel) hc) (q c))
    · obtain ⟨c, hc, _⟩ : ∃ x, atI (Str.ofString "abcdefghijklmnopqrstuvwxyz").cps.toList (n / 5 % 26) = some x ∧ _ :=
        atI_some (Int.emod_nonneg _ (by decide)) (Int.lt_of_lt_of_le (Int.emod_lt_of_pos _ (by decide)) (by decide +kernel))
      exact dss_nil (dss_cons (ds_ret (de_ixS (de_var 1 rfl) (de_bin (de_bin (de_var 0 rfl) de_int (opd_div ⟨by decide, by decide⟩)) de_int (opd_mod (by decide))) (by decide +kernel) hc) (q c)))
theorem word_snoc (cs : List Nat) (c : Nat) : (⟨cs.toArray⟩ : Str) ++ sg c = ⟨(cs ++ [c]).toArray⟩ :=
  congrArg Str.mk (show cs.toArray ++ [c].toArray = (cs ++ [c]).toArray by simp)
theorem feed_at {ns : List Int} (hf : Feed ns) {i : Int} (h0 : 0 ≤ i) (h1 : i < 270) : ∃ n : Int, atI (ns.map D.int) i = some (.int n) ∧ 0 ≤ n ∧ n < 55440 := by
  obtain ⟨x, e, hm⟩ := atI_some (xs := ns.map D.int) h0 (by rw [List.length_map]; have := hf.1; omega)
  obtain ⟨n, hn, rfl⟩ := List.mem_map.mp hm
  exact ⟨n, e, hf.2.2 n hn⟩
def fLaw : SpecD := fun ds R => ∃ xs : List Int, ds = [.lst (xs.map .int)] ∧ R (.val (.bl true))
theorem ok_law {f f1 f2 f3 : Addr} {fd fd1 fd2 fd3 : FuncData} (F : Fun K "law" "law" sLaw f fd) (F1 : Fun K "_law_feed" "_law_feed" sFeed f1 fd1) (F2 : Fun K "_law_sign" "_law_sign" sSign f2 fd2) (F3 : Fun K "is_name" "is_name" sName f3 fd3)
    (b1 : Binds K fd1 ["_law_script"] []) (b2 : Binds K fd2 ["_law_number"] []) (b3 : Binds K fd3 ["word"] []) (g1 : mg "_law_feed" = some (.ref f1)) (g2 : mg "_law_sign" = some (.ref f2)) (g3 : mg "is_name" = some (.ref f3))
    (mLen : mg "len" = none) (mAbs : mg "abs" = none) (mRange : mg "range" = none) (mInt : mg "int" = none) (mSum : mg "sum" = none) (mAll : mg "all" = none) (mIsi : mg "isinstance" = none) (mBool : mg "bool" = none) :
    FnOk P w K mg base CX0 2 f fd ["_law_script"] (spD K fLaw) := by
  have G1 : FnOk P w K mg base CX0 1 f1 fd1 ["_law_script"] (spD K fFeed) := ok_feed F1 mLen mAbs mRange mInt mSum
  have G2 : FnOk P w K mg base CX0 1 f2 fd2 ["_law_number"] (spD K fSign) := ok_sign F2 mLen
  have G3 : FnOk P w K mg base CX0 1 f3 fd3 ["word"] (spD K fName) := ok_name F3 mLen mAll
  refine fn_data F scLaw (fun ds R h => ?_) (fun cdv A outer s H E hr ds R h => ?_)
  · obtain ⟨xs, rfl, _⟩ := h; rfl
  · obtain ⟨xs, rfl, q⟩ := h
    have nd := scLaw.nd
    refine dss_cons (ds_setC 1 ⟨1, f1, fd1, _, fun _ => G1, fun _ => hr, fun _ => g1, F1.kp, b1⟩ (da_cons (de_var 0 rfl) da_nil) ⟨xs, rfl, fun ns hf => ?_⟩ (fun _ => nd))
    have hs : Has (K := K) ⟨Unit, fun _ => (cxOf CX0 P w K mg base ["_law_script", "_law_feed_here", "_law_word", "_law_good", "_law_k", "_law_sign_here", "_law_found"] "law" (defScope sLaw) f cdv A outer s H E).nox, fun _ => rfl⟩ "_law_sign" fSign := ⟨1, f2, fd2, _, fun _ => G2, fun _ => hr, fun _ => g2, F2.kp, b2⟩
    refine dss_freeze 1 rfl ?_
    refine dss_cons (ds_set 2 de_str ?_ (fun _ => nd))
    refine dss_cons (ds_set 3 de_bl ?_ (fun _ => nd))
    obtain ⟨n0, e0, _, _⟩ := feed_at hf (i := 0) (by decide) (by decide)
    obtain ⟨n20, e20, _, _⟩ := feed_at hf (i := 20) (by decide) (by decide)
    obtain ⟨n21, e21, _, _⟩ := feed_at hf (i := 21) (by decide) (by decide)
    refine dss_cons (ds_for [4] (fun i ρ => ∃ (cs : List Nat) (c4 c5 : Sl), ρ = [.val (.lst (xs.map .int)), .val (.lst (ns.map .int)), .val (.str ⟨cs.toArray⟩), .val (.bl ((cs.map okc).all id)), c4, c5, .any] ∧ cs.length = i)
      (di_range1 (de_bin (de_ixL (de_var 1 rfl) de_int e0) de_int (opd_mod (by decide))) (fun _ => mRange)) ⟨[], .any, .any, ?_, rfl⟩ ?_ ?_)
    · show [_, _, Sl.val (.str (Str.ofString "")), _, _, _, _] = _
      rw [show Str.ofString "" = ⟨([] : List Nat).toArray⟩ by decide +kernel]; rfl
    · rintro i ρ' d hd ⟨cs, c4, c5, rfl, hl⟩
      obtain ⟨hi, rfl⟩ := rangeD_get hd
      have hi' : i < 11 := by omega
      obtain ⟨n1, e1, p1, p2⟩ := feed_at hf (i := 1 + (0 + (i : Int))) (by omega) (by omega)
      refine dg_name 4 ?_ (fun _ => nd)
      refine dss_cons (ds_setC 5 hs (da_cons (de_ixL (de_var 1 rfl) (de_bin de_int (de_var 4 rfl) opd_add) e1) da_nil) ⟨n1, rfl, p1, fun c => ?_⟩ (fun _ => nd))
      refine dss_cut (fun ρ => ∃ c, ρ = [.val (.lst (xs.map .int)), .val (.lst (ns.map .int)), .val (.str ⟨cs.toArray⟩), .val (.bl ((cs.map okc).all id)), .val (.int (0 + (i : Int))), .val (.str (sg c)), .any])
        (ds_if (dw_and (dt_cmp (de_bin (de_ixL (de_var 1 rfl) de_int e20) de_int (opd_mod (by decide))) de_int cm_eqI) fun _ => dw_and1 (dt_cmp (de_var 4 rfl) (de_bin (de_ixL (de_var 1 rfl) de_int e21) de_int (opd_mod (by decide))) cm_neI)).dt (fun _ => ?_) (fun _ => ?_)) ?_
      · exact dss_cons (ds_setC 5 hs (da_cons (de_bin de_int (de_bin de_int (de_ixL (de_var 1 rfl) (de_bin de_int (de_var 4 rfl) opd_add) e1) (opd_mul (.inl ⟨by decide, by decide⟩))) opd_add) da_nil) ⟨_, rfl, by omega, fun c => dss_nil ⟨c, rfl⟩⟩ (fun _ => nd))
      · exact dss_nil ⟨c, rfl⟩
      · rintro ρ ⟨c, rfl⟩
        refine dss_cons (ds_set 2 ((de_bin (de_var 2 rfl) (de_var 5 rfl) (opd_addS (by
          show cs.toArray.size + 1 ≤ sizeLine
          rw [List.size_toArray]; exact small (by omega)))).is (congrArg D.str (word_snoc cs c))) ?_ (fun _ => nd))
        refine dss_cons (ds_set 3 ((de_and (de_var 3 rfl) fun _ => de_and (de_cmp de_str (de_var 5 rfl) cm_leS) fun _ => de_one (de_cmp (de_var 5 rfl) de_str cm_leS)).is (d' := .bl (((cs ++ [c]).map okc).all id)) ?_) ?_ (fun _ => nd))
        · rw [List.map_append, List.all_append]
          show _ = D.bl (_ && ((okc c) && true))
          rw [Bool.and_true]; rfl
        · exact dss_nil ⟨cs ++ [c], _, _, rfl, by rw [List.length_append]; show cs.length + 1 = _; omega⟩
    · rintro ρ' ⟨cs, c4, c5, rfl, hl⟩
      rw [rangeD_len] at hl
      have hl' : cs.length ≤ 10 := by omega
      have hw : (⟨cs.toArray⟩ : Str).length = cs.length := List.size_toArray
      refine dss_cons (ds_set 6 (de_call ⟨1, f3, fd3, _, fun _ => G3, fun _ => hr, fun _ => g3, F3.kp, b3⟩ (da_cons (de_var 2 rfl) da_nil) ⟨_, rfl, by omega, rfl⟩) ?_ (fun _ => nd))
      refine dss_cons (ds_if (dt_not (dt_val (de_isi (T := "bool") (de_var 6 rfl) (fun _ => mIsi) (fun _ => mBool) (by decide +kernel)))) (fun hk => ?_) (fun hk => ?_))
      · cases hk
      · refine dss_nil (dss_cons (ds_ret ((de_cmp (de_var 6 rfl) (de_and (de_var 3 rfl) fun _ => de_and (de_cmp de_int (de_callB (ca_lenS (by rw [hw]; exact small (by omega))) (fun _ => mLen) PySem.boot_len (da_cons (de_var 2 rfl) da_nil)) cm_le) fun _ => de_one (de_cmp (de_callB (ca_lenS (by rw [hw]; exact small (by omega))) (fun _ => mLen) PySem.boot_len (da_cons (de_var 2 rfl) da_nil)) de_int cm_le)) cm_eqB).is ?_) q))
        refine congrArg D.bl (decide_eq_true ?_)
        unfold nameB
        rw [Bool.and_comm]
end
theorem all_mk {l : PySem.W.OpenLaw} {w : World} {K : PySem.W.Frag} {h : Heap} {mg : Str → Option Value} {fa f1 f2 f3 f4 : Addr} (X : K.In h) (G : h.Ns mainGlobals mg) (hfa : mg "law" = some (.ref fa))
    {od1 an1 od2 an2 od3 an3 od4 an4 : Option Addr} {sl1 sl2 sl3 sl4 : Array (Option Value)} {oc1 kV1 dc1 pm1 cd1 ct1 oc2 kV2 dc2 pm2 cd2 ct2 oc3 kV3 dc3 pm3 cd3 ct3 oc4 kV4 dc4 pm4 cd4 ct4 : Value}
    (a1 : PySem.W.nsIn K mainGlobals "is_name" = some (some (.ref f1))) (l1 : K.lookup f1 = some ⟨oc1, od1, .func (PySem.W.fnOf "is_name" "is_name" (defArgs sName) (defBody sName) (defScope sName) .none kV1 dc1 pm1 an1 cd1 ct1), sl1⟩) (c1 : PySem.W.codeIn K cd1 "is_name" = true) (k1 : PySem.W.keepIn K (.ref f1) = true)
    (a2 : PySem.W.nsIn K mainGlobals "_law_feed" = some (some (.ref f2))) (l2 : K.lookup f2 = some ⟨oc2, od2, .func (PySem.W.fnOf "_law_feed" "_law_feed" (defArgs sFeed) (defBody sFeed) (defScope sFeed) .none kV2 dc2 pm2 an2 cd2 ct2), sl2⟩) (c2 : PySem.W.codeIn K cd2 "_law_feed" = true) (k2 : PySem.W.keepIn K (.ref f2) = true)
    (a3 : PySem.W.nsIn K mainGlobals "_law_sign" = some (some (.ref f3))) (l3 : K.lookup f3 = some ⟨oc3, od3, .func (PySem.W.fnOf "_law_sign" "_law_sign" (defArgs sSign) (defBody sSign) (defScope sSign) .none kV3 dc3 pm3 an3 cd3 ct3), sl3⟩) (c3 : PySem.W.codeIn K cd3 "_law_sign" = true) (k3 : PySem.W.keepIn K (.ref f3) = true)
    (a4 : PySem.W.nsIn K mainGlobals "law" = some (some (.ref f4))) (l4 : K.lookup f4 = some ⟨oc4, od4, .func (PySem.W.fnOf "law" "law" (defArgs sLaw) (defBody sLaw) (defScope sLaw) .none kV4 dc4 pm4 an4 cd4 ct4), sl4⟩) (c4 : PySem.W.codeIn K cd4 "law" = true) (k4 : PySem.W.keepIn K (.ref f4) = true)
    (z1 : PySem.W.nsIn K mainGlobals "len" = some none) (z2 : PySem.W.nsIn K mainGlobals "abs" = some none) (z3 : PySem.W.nsIn K mainGlobals "range" = some none) (z4 : PySem.W.nsIn K mainGlobals "int" = some none) (z5 : PySem.W.nsIn K mainGlobals "sum" = some none) (z6 : PySem.W.nsIn K mainGlobals "all" = some none) (z7 : PySem.W.nsIn K mainGlobals "isinstance" = some none) (z8 : PySem.W.nsIn K mainGlobals "bool" = some none) :
    ∃ fd : FuncData, (∀ (s : Shared) (v : Value), BindsTo s fd ⟨[v], []⟩ [("_law_script", v)]) ∧ ∀ base : Heap, K.In base → base.Ns mainGlobals mg → FnOk l.prog w K mg base CX0 2 fa fd ["_law_script"] (spD K fLaw) := by
  have e := hfa.symm.trans (PySem.W.mg_of X G a4)
  cases e
  have F1 := fun_mk (st := sName) l1 c1 k1
  have F2 := fun_mk (st := sFeed) l2 c2 k2
  have F3 := fun_mk (st := sSign) l3 c3 k3
  have F4 := fun_mk (st := sLaw) l4 c4 k4
  have b1 := F1.binds (ps := ["word"]) fun _ _ _ _ _ _ us hl => match us, hl with | [_], _ => rfl
  have b2 := F2.binds (ps := ["_law_script"]) fun _ _ _ _ _ _ us hl => match us, hl with | [_], _ => rfl
  have b3 := F3.binds (ps := ["_law_number"]) fun _ _ _ _ _ _ us hl => match us, hl with | [_], _ => rfl
  exact ⟨PySem.W.fnOf "law" "law" (defArgs sLaw) (defBody sLaw) (defScope sLaw) .none kV4 dc4 pm4 an4 cd4 ct4, fun s v => .of_eq rfl, fun base _ _ => ok_law F4 F2 F3 F1 b2 b3 b1 (PySem.W.mg_of X G a2) (PySem.W.mg_of X G a3) (PySem.W.mg_of X G a1)
    (PySem.W.mg_none_of X G z1) (PySem.W.mg_none_of X G z2) (PySem.W.mg_none_of X G z3) (PySem.W.mg_none_of X G z4) (PySem.W.mg_none_of X G z5) (PySem.W.mg_none_of X G z6) (PySem.W.mg_none_of X G z7) (PySem.W.mg_none_of X G z8)⟩
end K01
open PySem PySem.W PyProof.Rows
set_option maxHeartbeats 0 in
theorem PySem.Challenge.cw_yesterpost_k01_names_holds : PySem.Challenge.rw_yesterpost_k01_names.Holds := by
  w_on; o_law; k_head; (case hw => w_witness2)
  k_fill
  refine L2.walk_ofK (l := PySem.Challenge.rw_yesterpost_k01_names) (n := 63) (k := 2) (x := "_law_script") (CX := L2.CX0) (sp := fun K => Yp.spD K K01.fLaw) rfl (by decide) rfl ⟨rfl, by decide, by decide⟩ (fun w h Y => PySem.W.kIn_of Y) ?F (fun _ _ a ns _ _ hS => Yp.law_start hS fun R h => ⟨ns, rfl, h⟩) (fun _ _ _ _ h => h)
  case F =>
    intro w mg fa h KX G hmg
    refine' K01.all_mk KX G hmg ?a1 ?l1 ?c1 ?k1 ?a2 ?l2 ?c2 ?k2 ?a3 ?l3 ?c3 ?k3 ?a4 ?l4 ?c4 ?k4 ?z1 ?z2 ?z3 ?z4 ?z5 ?z6 ?z7 ?z8
    (case a1 => k_is); (case l1 => k_is); (case c1 => k_is); (case k1 => k_is); (case a2 => k_is); (case l2 => k_is); (case c2 => k_is); (case k2 => k_is); (case a3 => k_is); (case l3 => k_is); (case c3 => k_is); (case k3 => k_is); (case a4 => k_is); (case l4 => k_is); (case c4 => k_is); (case k4 => k_is)
    (case z1 => k_is); (case z2 => k_is); (case z3 => k_is); (case z4 => k_is); (case z5 => k_is); (case z6 => k_is); (case z7 => k_is); (case z8 => k_is)
