import PyProof.Rows.All
import Wide.All
import OpenK.AllK
import Wide.FinOn
import HandS.ForMost
import HandS.Deep
import HandS.Evl
import HandS.Walk
import KE.GoesEnum
import KE.GoesMore
import HandS.SetFor
import HandS.Strs
import HandS.SortInts
import HandS.SortRule
import HandS.TupLe
import HandS.More
import HandS.TupAny
import HandS.TupMul
import HandS.IsInst
import HandS.RevRange
import HandS.DictComp
import HandS.Codes
import HandS.Wide
import KE.GoesEnumKw
import HandS.Defaults
import HandS.Style
import KE.GoesZip
import PyProof.Rows.SeqMore
import PySem.Challenge.RW_laidplates_k03_whole_worlds_that_part
section
set_option Elab.async false
set_option linter.all false
set_option maxRecDepth 100000
/-! Values as data, cells that change, readings over both. -/
namespace Zq
open PySem PySem.Spec PyProof.Rows L2
abbrev Ex := Evl.Ex
/-- the written part, the classes' addresses -/
structure Cc where
  K : PySem.W.Frag
  cls : Str → Addr
/-- a type of data: which value stands for which datum; ok x k: it leans on the first k cells alone -/
class Rep (α : Type) where
  rep : Cc → Hp → List Addr → V → α → Prop
  ok : α → Nat → Prop
  mono : ∀ {c F F' as as' v x}, Ex F F' → as <+: as' → rep c F as v x → rep c F' as' v x
  cut : ∀ {c F as v x k}, ok x k → rep c F as v x → rep c F (as.take k) v x
open Rep (rep)
/-! ### lists of data -/
def RepL {α : Type} [Rep α] (c : Cc) (F : Hp) (as : List Addr) : List V → List α → Prop := Paired (rep c F as)
theorem Paired.nilI {α β : Type} {R : α → β → Prop} : Paired R [] [] := .nil
theorem RepL.mono {α : Type} [Rep α] {c : Cc} {F F' : Hp} {as as' : List Addr} (e : Ex F F') (p : as <+: as') : ∀ {vs : List V} {xs : List α}, RepL c F as vs xs → RepL c F' as' vs xs
  | _, _, .nil => .nil
  | _, _, .cons r t => .cons (Rep.mono e p r) (RepL.mono e p t)
theorem RepL.length {α : Type} [Rep α] {c : Cc} {F : Hp} {as : List Addr} {vs : List V} {xs : List α} (h : RepL c F as vs xs) : vs.length = xs.length := Paired.length h
theorem RepL.append {α : Type} [Rep α] {c : Cc} {F : Hp} {as : List Addr} : ∀ {vs ws : List V} {xs ys : List α}, RepL c F as vs xs → RepL c F as ws ys → RepL c F as (vs ++ ws) (xs ++ ys)
  | _, _, _, _, .nil, s => s
  | _, _, _, _, .cons r t, s => .cons r (RepL.append t s)
theorem RepL.get {α : Type} [Rep α] {c : Cc} {F : Hp} {as : List Addr} : ∀ {vs : List V} {xs : List α} {i : Nat} {x : α}, RepL c F as vs xs → xs[i]? = some x → ∃ v, vs[i]? = some v ∧ rep c F as v x
  | _, _, _, _, .nil, e => by simp at e
  | _, _, 0, _, .cons r _, e => by simp at e; subst e; exact ⟨_, rfl, r⟩
  | _, _, i + 1, x, .cons _ t, e => by
    obtain ⟨v, h1, h2⟩ := RepL.get (i := i) (x := x) t (by simpa using e)
    exact ⟨v, by simpa using h1, h2⟩
theorem RepL.getV {α : Type} [Rep α] {c : Cc} {F : Hp} {as : List Addr} : ∀ {vs : List V} {xs : List α} {i : Nat} {v : V}, RepL c F as vs xs → vs[i]? = some v → ∃ x, xs[i]? = some x ∧ rep c F as v x
  | _, _, _, _, .nil, e => by simp at e
  | _, _, 0, _, .cons r _, e => by simp at e; subst e; exact ⟨_, rfl, r⟩
  | _, _, i + 1, x, .cons _ t, e => by
    obtain ⟨v, h1, h2⟩ := RepL.getV (i := i) t (by simpa using e)
    exact ⟨v, by simpa using h1, h2⟩
theorem RepL.take {α : Type} [Rep α] {c : Cc} {F : Hp} {as : List Addr} : ∀ {vs : List V} {xs : List α} (n : Nat), RepL c F as vs xs → RepL c F as (vs.take n) (xs.take n)
  | _, _, 0, _ => .nil
  | _, _, _ + 1, .nil => .nil
  | _, _, n + 1, .cons r t => .cons r (RepL.take n t)
theorem RepL.drop {α : Type} [Rep α] {c : Cc} {F : Hp} {as : List Addr} : ∀ {vs : List V} {xs : List α} (n : Nat), RepL c F as vs xs → RepL c F as (vs.drop n) (xs.drop n)
  | _, _, 0, r => r
  | _, _, _ + 1, .nil => .nil
  | _, _, n + 1, .cons _ t => RepL.drop n t
theorem RepL.set {α : Type} [Rep α] {c : Cc} {F : Hp} {as : List Addr} {v : V} {x : α} (r : rep c F as v x) : ∀ {vs : List V} {xs : List α} (n : Nat), RepL c F as vs xs → RepL c F as (vs.set n v) (xs.set n x)
  | _, _, _, .nil => .nil
  | _, _, 0, .cons _ t => .cons r t
  | _, _, n + 1, .cons q t => .cons q (RepL.set r n t)
def okL {α : Type} [Rep α] (k : Nat) : List α → Prop
  | [] => True
  | x :: xs => Rep.ok x k ∧ okL k xs
theorem RepL.cut {α : Type} [Rep α] {c : Cc} {F : Hp} {as : List Addr} {k : Nat} : ∀ {vs : List V} {xs : List α}, okL k xs → RepL c F as vs xs → RepL c F (as.take k) vs xs
  | _, _, _, .nil => .nil
  | _, _, h, .cons r t => .cons (Rep.cut h.1 r) (RepL.cut h.2 t)
theorem sqL_mono {K : PySem.W.Frag} {F F' : Hp} {a : Addr} {xs : List V} (e : Ex F F') (h : SqL K F a xs) : SqL K F' a xs := Evl.ex_l e h
theorem sqT_mono {K : PySem.W.Frag} {F F' : Hp} {a : Addr} {xs : List V} (e : Ex F F') (h : SqT K F a xs) : SqT K F' a xs := Evl.ex_t e h
/-! ### the types -/
instance : Rep Int := ⟨fun _ _ _ v x => v = .int x, fun _ _ => True, fun _ _ h => h, fun _ h => h⟩
instance : Rep Bool := ⟨fun _ _ _ v x => v = .bl x, fun _ _ => True, fun _ _ h => h, fun _ h => h⟩
instance : Rep Unit := ⟨fun _ _ _ v _ => v = .non, fun _ _ => True, fun _ _ h => h, fun _ h => h⟩
instance : Rep Str := ⟨fun _ _ _ v x => v = .str x, fun _ _ => True, fun _ _ h => h, fun _ h => h⟩
/-- a cell, by its place -/
structure MR where
  k : Nat
instance : Rep MR where
  rep _ _ as v x := ∃ a, as[x.k]? = some a ∧ v = .ref a
  ok x k := x.k < k
  mono := by
    rintro c F F' as as' v x e ⟨t, rfl⟩ ⟨a, h, rfl⟩
    refine ⟨a, ?_, rfl⟩
    have hl : x.k < as.length := (List.getElem?_eq_some_iff.mp h).1
    rw [List.getElem?_append_left hl]; exact h
  cut := by
    rintro c F as v x k hk ⟨a, h, rfl⟩
    exact ⟨a, by rw [List.getElem?_take, if_pos hk]; exact h, rfl⟩
/-- a list that nobody changes any more -/
instance {α : Type} [Rep α] : Rep (List α) where
  rep c F as v xs := ∃ a vs, v = .ref a ∧ SqL c.K F a vs ∧ RepL c F as vs xs
  ok xs k := okL k xs
  mono := by rintro c F F' as as' v x e p ⟨a, vs, rfl, h, r⟩; exact ⟨a, vs, rfl, sqL_mono e h, r.mono e p⟩
  cut := by rintro c F as v x k hk ⟨a, vs, rfl, h, r⟩; exact ⟨a, vs, rfl, h, r.cut hk⟩
/-- a tuple of things of one type -/
structure Tp (α : Type) where
  l : List α
deriving DecidableEq
instance {α : Type} [Rep α] : Rep (Tp α) where
  rep c F as v xs := ∃ a vs, v = .ref a ∧ SqT c.K F a vs ∧ RepL c F as vs xs.l
  ok xs k := okL k xs.l
  mono := by rintro c F F' as as' v x e p ⟨a, vs, rfl, h, r⟩; exact ⟨a, vs, rfl, sqT_mono e h, r.mono e p⟩
  cut := by rintro c F as v x k hk ⟨a, vs, rfl, h, r⟩; exact ⟨a, vs, rfl, h, r.cut hk⟩
/-- a tuple of two, of three -/
instance {α β : Type} [Rep α] [Rep β] : Rep (α × β) where
  rep c F as v x := ∃ a v1 v2, v = .ref a ∧ SqT c.K F a [v1, v2] ∧ rep c F as v1 x.1 ∧ rep c F as v2 x.2
  ok x k := Rep.ok x.1 k ∧ Rep.ok x.2 k
  mono := by rintro c F F' as as' v x e p ⟨a, v1, v2, rfl, h, r1, r2⟩; exact ⟨a, v1, v2, rfl, sqT_mono e h, Rep.mono e p r1, Rep.mono e p r2⟩
  cut := by rintro c F as v x k ⟨k1, k2⟩ ⟨a, v1, v2, rfl, h, r1, r2⟩; exact ⟨a, v1, v2, rfl, h, Rep.cut k1 r1, Rep.cut k2 r2⟩
structure T3 (α β γ : Type) where
  a : α
  b : β
  c : γ
deriving DecidableEq
instance {α β γ : Type} [Rep α] [Rep β] [Rep γ] : Rep (T3 α β γ) where
  rep c F as v x := ∃ a v1 v2 v3, v = .ref a ∧ SqT c.K F a [v1, v2, v3] ∧ rep c F as v1 x.a ∧ rep c F as v2 x.b ∧ rep c F as v3 x.c
  ok x k := Rep.ok x.a k ∧ Rep.ok x.b k ∧ Rep.ok x.c k
  mono := by rintro c F F' as as' v x e p ⟨a, v1, v2, v3, rfl, h, r1, r2, r3⟩; exact ⟨a, v1, v2, v3, rfl, sqT_mono e h, Rep.mono e p r1, Rep.mono e p r2, Rep.mono e p r3⟩
  cut := by rintro c F as v x k ⟨k1, k2, k3⟩ ⟨a, v1, v2, v3, rfl, h, r1, r2, r3⟩; exact ⟨a, v1, v2, v3, rfl, h, Rep.cut k1 r1, Rep.cut k2 r2, Rep.cut k3 r3⟩
/-- None, or a thing -/
instance {α : Type} [Rep α] : Rep (Option α) where
  rep c F as v x := match x with
    | none => v = .non
    | some y => rep c F as v y
  ok x k := match x with
    | none => True
    | some y => Rep.ok y k
  mono := by
    rintro c F F' as as' v (_ | y) e p h
    · exact h
    · exact Rep.mono (x := y) e p h
  cut := by
    rintro c F as v (_ | y) k hk h
    · exact h
    · exact Rep.cut (x := y) hk h
/-- a dict with int keys that nobody changes any more, in its order -/
structure Dc (β : Type) where
  kvs : List (Int × β)
def RepK {β : Type} [Rep β] (c : Cc) (F : Hp) (as : List Addr) : List (Key × V) → List (Int × β) → Prop := Paired fun p q => p.1 = Sum.inl q.1 ∧ rep c F as p.2 q.2
theorem RepK.mono {α : Type} [Rep α] {c : Cc} {F F' : Hp} {as as' : List Addr} (e : Ex F F') (p : as <+: as') : ∀ {vs} {xs : List (Int × α)}, RepK c F as vs xs → RepK c F' as' vs xs
  | _, _, .nil => .nil
  | _, _, .cons r t => .cons ⟨r.1, Rep.mono e p r.2⟩ (RepK.mono e p t)
def okK {β : Type} [Rep β] (k : Nat) : List (Int × β) → Prop
  | [] => True
  | x :: xs => Rep.ok x.2 k ∧ okK k xs
theorem RepK.cut {α : Type} [Rep α] {c : Cc} {F : Hp} {as : List Addr} {k : Nat} : ∀ {vs} {xs : List (Int × α)}, okK k xs → RepK c F as vs xs → RepK c F (as.take k) vs xs
  | _, _, _, .nil => .nil
  | _, _, h, .cons r t => .cons ⟨r.1, Rep.cut h.1 r.2⟩ (RepK.cut h.2 t)
instance {β : Type} [Rep β] : Rep (Dc β) where
  rep c F as v x := ∃ a kvs, v = .ref a ∧ F a = some (.dK kvs) ∧ RepK c F as kvs x.kvs
  ok x k := okK k x.kvs
  mono := by rintro c F F' as as' v x e p ⟨a, kvs, rfl, h, r⟩; exact ⟨a, kvs, rfl, e _ _ h, r.mono e p⟩
  cut := by rintro c F as v x k hk ⟨a, kvs, rfl, h, r⟩; exact ⟨a, kvs, rfl, h, r.cut hk⟩
/-! ### names' data, cells -/
structure Dy where
  h : Cc → Hp → List Addr → V → Prop
  ok : Nat → Prop
  mono : ∀ {c F F' as as' v}, Ex F F' → as <+: as' → h c F as v → h c F' as' v
  cut : ∀ {c F as v k}, ok k → h c F as v → h c F (as.take k) v
def dy {α : Type} [Rep α] (x : α) : Dy := ⟨fun c F as v => rep c F as v x, fun k => Rep.ok x k, fun e p h => Rep.mono e p h, fun o h => Rep.cut o h⟩
abbrev Env' := List (Option Dy)
structure Cell where
  h : Cc → Hp → List Addr → HO → Prop
  mono : ∀ {c F F' as as' o}, Ex F F' → as <+: as' → h c F as o → h c F' as' o
  ok : Nat → Prop
  cut : ∀ {c F as o k}, ok k → h c F as o → h c F (as.take k) o
abbrev Mem := List Cell
/-- a list that changes -/
def cLst {α : Type} [Rep α] (xs : List α) : Cell :=
  ⟨fun c F as o => ∃ vs, o = .lst vs ∧ RepL c F as vs xs, by rintro c F F' as as' o e p ⟨vs, rfl, r⟩; exact ⟨vs, rfl, r.mono e p⟩, fun k => okL k xs, by rintro c F as o k hk ⟨vs, rfl, r⟩; exact ⟨vs, rfl, r.cut hk⟩⟩
/-- a dict with int keys that changes -/
def cDic {β : Type} [Rep β] (kvs : List (Int × β)) : Cell :=
  ⟨fun c F as o => ∃ ps, o = .dK ps ∧ RepK c F as ps kvs, by rintro c F F' as as' o e p ⟨vs, rfl, r⟩; exact ⟨vs, rfl, r.mono e p⟩, fun k => okK k kvs, by rintro c F as o k hk ⟨vs, rfl, r⟩; exact ⟨vs, rfl, r.cut hk⟩⟩
/-! ### the state: as the cells' places, F what never changes any more, H all -/
structure Hw where
  F : Hp
  H : Hp
structure SlotsOk (c : Cc) (F : Hp) (as : List Addr) (σ : L2.St) (env : Env') : Prop where
  len : σ.length = env.length
  at_ : ∀ (i : Nat) (d : Dy), env[i]? = some (some d) → ∃ v, σ[i]? = some (some v) ∧ d.h c F as v
structure MemOk (c : Cc) (as : List Addr) (w : Hw) (M : Mem) : Prop where
  nd : as.Nodup
  len : M.length = as.length
  ex : Ex w.F w.H
  dis : ∀ a ∈ as, w.F a = none
  at_ : ∀ (k : Nat) (d : Cell), M[k]? = some d → ∃ a o, as[k]? = some a ∧ w.H a = some o ∧ d.h c w.F as o
structure Sta (c : Cc) (env : Env') (M : Mem) (as : List Addr) (σ : L2.St) (w : Hw) : Prop where
  sl : SlotsOk c w.F as σ env
  me : MemOk c as w M
structure Step (as : List Addr) (w : Hw) (as' : List Addr) (w' : Hw) : Prop where
  pre : as <+: as'
  ex : Ex w.F w'.F
  fr : ∀ a, w.F a = none → w'.F a ≠ none → w.H a = none ∨ a ∈ as
  frA : ∀ a ∈ as', a ∉ as → w.H a = none
  keep : ∀ a o, w.H a = some o → a ∉ as → w'.H a = some o
  dom : ∀ a, w.H a ≠ none → w'.H a ≠ none
theorem Step.refl (as : List Addr) (w : Hw) : Step as w as w := ⟨List.prefix_refl _, Evl.Ex.refl _, fun a h h' => absurd h h', fun a h h' => absurd h h', fun a o h _ => h, fun a h => h⟩
theorem Step.trans {as w as1 w1 as2 w2} (a : Step as w as1 w1) (b : Step as1 w1 as2 w2) : Step as w as2 w2 := by
  refine ⟨a.pre.trans b.pre, a.ex.trans b.ex, fun x h h' => ?_, fun x h h' => ?_, fun x o h h' => ?_, fun x h => b.dom x (a.dom x h)⟩
  · by_cases q : w1.F x = none
    · rcases b.fr x q h' with z | z
      · left
        by_cases w : w.H x = none
        · exact w
        · exact absurd z (a.dom x w)
      · by_cases w : x ∈ as
        · exact .inr w
        · exact .inl (a.frA x z w)
    · exact a.fr x h q
  · by_cases q : x ∈ as1
    · exact a.frA x q h'
    · have z := b.frA x h q
      by_cases w : w.H x = none
      · exact w
      · exact absurd z (a.dom x w)
  · by_cases q : x ∈ as1
    · have z := a.frA x q h'
      rw [h] at z; cases z
    · exact b.keep x o (a.keep x o h h') q
theorem SlotsOk.mono {c F F' as as' σ env} (e : Ex F F') (p : as <+: as') (h : SlotsOk c F as σ env) : SlotsOk c F' as' σ env := ⟨h.len, fun i d q => let ⟨v, h1, h2⟩ := h.at_ i d q; ⟨v, h1, d.mono e p h2⟩⟩
theorem SlotsOk.step {c as w as' w' σ env} (s : Step as w as' w') (h : SlotsOk c w.F as σ env) : SlotsOk c w'.F as' σ env := h.mono s.ex s.pre
theorem SlotsOk.set {c F as σ env} {v : V} {d : Dy} (h : SlotsOk c F as σ env) (i : Nat) (hd : d.h c F as v) : SlotsOk c F as (σ.set i (some v)) (env.set i (some d)) := by
  refine ⟨by rw [List.length_set, List.length_set, h.len], fun j d' q => ?_⟩
  rw [List.getElem?_set] at q
  by_cases e : i = j
  · subst e
    rw [if_pos rfl] at q
    split at q
    · cases q
      rename_i hl
      exact ⟨v, by rw [List.getElem?_set, if_pos rfl, if_pos (by rw [h.len]; exact hl)], hd⟩
    · cases q
  · rw [if_neg e] at q
    obtain ⟨w, h1, h2⟩ := h.at_ j d' q
    exact ⟨w, by rw [List.getElem?_set, if_neg e]; exact h1, h2⟩
/-- env' knows no more than env -/
def Frg (env env' : Env') : Prop := env.length = env'.length ∧ ∀ (i : Nat) (d : Dy), env'[i]? = some (some d) → env[i]? = some (some d)
theorem Frg.refl (env : Env') : Frg env env := ⟨rfl, fun _ _ h => h⟩
theorem SlotsOk.frg {c F as σ env env'} (h : SlotsOk c F as σ env) (f : Frg env env') : SlotsOk c F as σ env' := ⟨h.len.trans f.1, fun i d q => h.at_ i d (f.2 i d q)⟩
theorem Frg.nil : Frg [] [] := ⟨rfl, fun i d h => by simp at h⟩
theorem Frg.same {d : Option Dy} {e e' : Env'} (h : Frg e e') : Frg (d :: e) (d :: e') := by
  refine ⟨by rw [List.length_cons, List.length_cons, h.1], fun i d' q => ?_⟩
  cases i with
  | zero => simpa using q
  | succ i => simpa using h.2 i d' (by simpa using q)
theorem Frg.drop {d : Option Dy} {e e' : Env'} (h : Frg e e') : Frg (d :: e) (none :: e') := by
  refine ⟨by rw [List.length_cons, List.length_cons, h.1], fun i d' q => ?_⟩
  cases i with
  | zero => simp at q
  | succ i => simpa using h.2 i d' (by simpa using q)
theorem MemOk.isSome {c as} {F H : Hp} {M : Mem} (m : MemOk c as ⟨F, H⟩ M) {a : Addr} (h : a ∈ as) : H a ≠ none := by
  obtain ⟨k, hk, e⟩ := List.getElem_of_mem h
  obtain ⟨a', o, h1, h2, _⟩ := m.at_ k (M[k]'(by rw [m.len]; exact hk)) (List.getElem?_eq_getElem _)
  rw [List.getElem?_eq_getElem hk, e] at h1
  cases h1
  dsimp only at h2
  rw [h2]; simp
theorem MemOk.notin {c as} {F H : Hp} {M : Mem} (m : MemOk c as ⟨F, H⟩ M) {p : Addr} (hp : H p = none) : p ∉ as := fun z => m.isSome z hp
theorem MemOk.fresh {c as} {F H : Hp} {M : Mem} (m : MemOk c as ⟨F, H⟩ M) {p : Addr} (hp : H p = none) : F p = none := Evl.fresh_back m.ex hp
/-- a new object that is not to change -/
theorem MemOk.new {c as} {F H : Hp} {M : Mem} {p : Addr} {o : HO} (m : MemOk c as ⟨F, H⟩ M) (hp : H p = none) : Step as ⟨F, H⟩ as ⟨upd F p o, upd H p o⟩ ∧ MemOk c as ⟨upd F p o, upd H p o⟩ M := by
  have hF := m.fresh hp
  have hn := m.notin hp
  have e : Ex F (upd F p o) := Evl.Ex.new hF
  refine ⟨⟨List.prefix_refl _, e, fun a h h' => ?_, fun a h h' => absurd h h', fun a u h _ => by dsimp only at *; rw [upd_ne (ne_of_none h hp)]; exact h, fun a h => ?_⟩, m.nd, m.len, fun a u h => ?_, fun a ha => ?_, fun k d q => ?_⟩
  · dsimp only at *
    by_cases z : a = p
    · subst z; exact .inl hp
    · rw [upd_ne z] at h'; exact absurd h h'
  · dsimp only at *
    by_cases z : a = p
    · subst z; rw [upd_same]; simp
    · rw [upd_ne z]; exact h
  · dsimp only at *
    by_cases z : a = p
    · subst z; rw [upd_same] at h ⊢; exact h
    · rw [upd_ne z] at h ⊢; exact m.ex a u h
  · dsimp only at *
    rw [upd_ne (fun z => hn (by rw [← z]; exact ha))]; exact m.dis a ha
  · obtain ⟨a, o', h1, h2, h3⟩ := m.at_ k d q
    exact ⟨a, o', h1, by dsimp only at *; rw [upd_ne (ne_of_none h2 hp)]; exact h2, d.mono e (List.prefix_refl _) h3⟩
/-- a new object that is to change -/
theorem MemOk.newCell {c as} {F H : Hp} {M : Mem} {p : Addr} {o : HO} {d : Cell} (m : MemOk c as ⟨F, H⟩ M) (hp : H p = none) (hd : d.h c F as o) : Step as ⟨F, H⟩ (as ++ [p]) ⟨F, upd H p o⟩ ∧ MemOk c (as ++ [p]) ⟨F, upd H p o⟩ (M ++ [d]) := by
  have hF := m.fresh hp
  have hn := m.notin hp
  refine ⟨⟨⟨[p], rfl⟩, Evl.Ex.refl _, fun a h h' => absurd h h', fun a h h' => ?_, fun a u h _ => by dsimp only at *; rw [upd_ne (ne_of_none h hp)]; exact h, fun a h => ?_⟩, ?_, by rw [List.length_append, List.length_append, m.len] <;> rfl, fun a u h => ?_, fun a ha => ?_, fun k d' q => ?_⟩
  · have : a = p := by
      rcases List.mem_append.mp h with z | z
      · exact absurd z h'
      · simpa using z
    rw [this]; exact hp
  · dsimp only at *
    by_cases z : a = p
    · subst z; rw [upd_same]; simp
    · rw [upd_ne z]; exact h
  · rw [List.nodup_append]
    refine ⟨m.nd, by simp, fun a ha b hb => ?_⟩
    have : b = p := by simpa using hb
    subst this
    intro z; subst z; exact hn ha
  · dsimp only at *
    rw [upd_ne (ne_of_none h hF)]; exact m.ex a u h
  · rcases List.mem_append.mp ha with z | z
    · exact m.dis a z
    · have : a = p := by simpa using z
      rw [this]; exact hF
  · by_cases hk : k < M.length
    · rw [List.getElem?_append_left hk] at q
      obtain ⟨a, o', h1, h2, h3⟩ := m.at_ k d' q
      exact ⟨a, o', by rw [List.getElem?_append_left (by rw [← m.len]; exact hk)]; exact h1, by dsimp only at *; rw [upd_ne (ne_of_none h2 hp)]; exact h2, d'.mono (Evl.Ex.refl _) ⟨[p], rfl⟩ h3⟩
    · rw [List.getElem?_append_right (by omega)] at q
      have hk0 : k - M.length = 0 := by
        have := (List.getElem?_eq_some_iff.mp q).1
        simp at this; omega
      rw [hk0] at q
      have : d = d' := by simpa using q
      subst this
      have hkk : k = as.length := by have := m.len; omega
      subst hkk
      exact ⟨p, o, by simp, upd_same, d.mono (Evl.Ex.refl _) ⟨[p], rfl⟩ hd⟩
/-- a cell changes -/
theorem MemOk.put {c as} {F H : Hp} {M : Mem} {k : Nat} {a : Addr} {o : HO} {d : Cell} (m : MemOk c as ⟨F, H⟩ M) (ha : as[k]? = some a) (hd : d.h c F as o) : Step as ⟨F, H⟩ as ⟨F, upd H a o⟩ ∧ MemOk c as ⟨F, upd H a o⟩ (M.set k d) := by
  have hin : a ∈ as := List.mem_of_getElem? ha
  refine ⟨⟨List.prefix_refl _, Evl.Ex.refl _, fun x h h' => absurd h h', fun x h h' => absurd h h', fun x u h h' => by dsimp only at *; rw [upd_ne (fun (z : x = a) => h' (by rw [z]; exact hin))]; exact h, fun x h => ?_⟩, m.nd, by rw [List.length_set, m.len], fun x u h => ?_, m.dis, fun j d' q => ?_⟩
  · dsimp only at *
    by_cases z : x = a
    · subst z; rw [upd_same]; simp
    · rw [upd_ne z]; exact h
  · dsimp only at *
    have : x ≠ a := fun z => by
      have q : F a = none := m.dis a hin
      rw [z, q] at h; cases h
    rw [upd_ne this]; exact m.ex x u h
  · rw [List.getElem?_set] at q
    by_cases e : k = j
    · subst e
      rw [if_pos rfl] at q
      split at q
      · cases q
        exact ⟨a, o, ha, upd_same, hd⟩
      · cases q
    · rw [if_neg e] at q
      obtain ⟨b, o', h1, h2, h3⟩ := m.at_ j d' q
      refine ⟨b, o', h1, ?_, h3⟩
      have : b ≠ a := fun z => by
        subst z
        obtain ⟨l1, g1⟩ := List.getElem?_eq_some_iff.mp ha
        obtain ⟨l2, g2⟩ := List.getElem?_eq_some_iff.mp h1
        exact e ((List.getElem_inj m.nd).mp (g1.trans g2.symm))
      dsimp only at *
      rw [upd_ne this]; exact h2
/-- the last cell will not change any more -/
theorem MemOk.freeze {c as} {F H : Hp} {M : Mem} {D : Addr} {o : HO} (m : MemOk c (as ++ [D]) ⟨F, H⟩ M) (hD : H D = some o) : Ex F (upd F D o) ∧ Ex (upd F D o) H ∧ D ∉ as := by
  have hF := m.dis D (by simp)
  refine ⟨Evl.Ex.new hF, fun a u h => ?_, fun z => ?_⟩
  · dsimp only at *
    by_cases q : a = D
    · subst q; rw [upd_same] at h; cases h; exact hD
    · rw [upd_ne q] at h; exact m.ex a u h
  · have := m.nd
    rw [List.nodup_append] at this
    exact this.2.2 D z D (by simp) rfl
/-! ### what is evaluated: expressions, tests, arguments -/
section
variable (c : Cc)
def WE (te : TE) (env : Env') (M : Mem) (P : Dy → Mem → Prop) : Prop :=
  ∀ as σ w (Q : VK), Sta c env M as σ w → (∀ v as' w' d M', Step as w as' w' → MemOk c as' w' M' → d.h c w'.F as' v → P d M' → Q v w'.H) → te σ w.H Q
def WT (tt : TT) (env : Env') (M : Mem) (P : Bool → Mem → Prop) : Prop :=
  ∀ as σ w (Q : Bool → Hp → Prop), Sta c env M as σ w → (∀ b as' w' M', Step as w as' w' → MemOk c as' w' M' → P b M' → Q b w'.H) → tt σ w.H Q
/-- values that stand for data -/
def RepDs (F : Hp) (as : List Addr) : List V → List Dy → Prop := Paired fun v d => d.h c F as v
def WA (ta : TA) (env : Env') (M : Mem) (P : List Dy → Mem → Prop) : Prop :=
  ∀ as σ w (Q : List V → Hp → Prop), Sta c env M as σ w → (∀ vs as' w' ds M', Step as w as' w' → MemOk c as' w' M' → RepDs c w'.F as' vs ds → P ds M' → Q vs w'.H) → ta σ w.H Q
end
/-- d is of this type -/
def As (α : Type) [Rep α] (P : α → Mem → Prop) (d : Dy) (m : Mem) : Prop := ∃ x : α, d = dy x ∧ P x m
theorem as_dy {α : Type} [Rep α] {P : α → Mem → Prop} {x : α} {m : Mem} (p : P x m) : As α P (dy x) m := ⟨x, rfl, p⟩
theorem RepDs.mono {c : Cc} {F F' : Hp} {as as' : List Addr} (e : Ex F F') (p : as <+: as') : ∀ {vs : List V} {ds : List Dy}, RepDs c F as vs ds → RepDs c F' as' vs ds
  | _, _, .nil => .nil
  | _, d :: _, .cons r t => .cons (d.mono e p r) (RepDs.mono e p t)
theorem Sta.step {c env M as σ w as' w' M'} (s : Sta c env M as σ w) (st : Step as w as' w') (m : MemOk c as' w' M') : Sta c env M' as' σ w' := ⟨s.sl.step st, m⟩
section
variable {c : Cc} {env : Env'} {M : Mem} {α β γ : Type} [Rep α] [Rep β] [Rep γ] {ta tb te : TE} {P : Dy → Mem → Prop} {B : Bool → Mem → Prop}
theorem WE.mono {P Q : Dy → Mem → Prop} (h : WE c te env M P) (k : ∀ x m, P x m → Q x m) : WE c te env M Q := fun as σ H R s q => h as σ H R s fun v as' H' x M' st m r p => q v as' H' x M' st m r (k _ _ p)
theorem we_var {i : Nat} {d : Dy} (h : env[i]? = some (some d)) (p : P d M) : WE c (tVar i) env M P := fun as σ H Q s k => by
  obtain ⟨v, hv, hr⟩ := s.sl.at_ i _ h
  exact ⟨v, hv, k v as H d M (.refl _ _) s.me hr p⟩
theorem we_int {i : Int} (p : P (dy i) M) : WE c (tC (.int i)) env M P := fun as σ H Q s k => k _ as H (dy i) M (.refl _ _) s.me rfl p
theorem we_bl {i : Bool} (p : P (dy i) M) : WE c (tC (.bl i)) env M P := fun as σ H Q s k => k _ as H (dy i) M (.refl _ _) s.me rfl p
theorem we_non (p : P (dy ()) M) : WE c (tC .non) env M P := fun as σ H Q s k => k _ as H (dy ()) M (.refl _ _) s.me rfl p
theorem we_str {i : Str} (p : P (dy i) M) : WE c (tC (.str i)) env M P := fun as σ H Q s k => k _ as H (dy i) M (.refl _ _) s.me rfl p
/-- an operation on two values -/
def RR (c : Cc) (r : R2) (x y : Dy) (M : Mem) (P : Dy → Mem → Prop) : Prop :=
  ∀ as W (v w : V) (Q : VK), MemOk c as W M → x.h c W.F as v → y.h c W.F as w → (∀ u as' w' z M', Step as W as' w' → MemOk c as' w' M' → z.h c w'.F as' u → P z M' → Q u w'.H) → r v w W.H Q
theorem we_op2 {r : R2} (h : WE c ta env M fun x M1 => WE c tb env M1 fun y M2 => RR c r x y M2 P) : WE c (tOp r ta tb) env M P := fun as σ H Q s k =>
  h as σ H _ s fun v as1 H1 x M1 st1 m1 r1 p1 => p1 as1 σ H1 _ (s.step st1 m1) fun w as2 H2 y M2 st2 m2 r2 p2 =>
    p2 as2 H2 v w Q m2 (x.mono st2.ex st2.pre r1) r2 fun u as3 H3 z M3 st3 m3 r3 p3 => k u as3 H3 z M3 ((st1.trans st2).trans st3) m3 r3 p3
/-- an operation on two values that only reads -/
theorem rr_pure {r : R2} {x y z : Dy} (h : ∀ as W (v w : V) (Q : VK), MemOk c as W M → x.h c W.F as v → y.h c W.F as w → (∀ u, z.h c W.F as u → Q u W.H) → r v w W.H Q) (p : P z M) : RR c r x y M P :=
  fun as H v w Q m r1 r2 k => h as H v w Q m r1 r2 fun u ru => k u as H z M (.refl _ _) m ru p
/-! ### tests -/
theorem WT.mono {tt : TT} {P Q : Bool → Mem → Prop} (h : WT c tt env M P) (k : ∀ x m, P x m → Q x m) : WT c tt env M Q := fun as σ H R s q => h as σ H R s fun b as' H' M' st m p => q b as' H' M' st m (k _ _ p)
theorem wt_test (h : WE c te env M (As Bool B)) : WT c (tTest te) env M B := fun as σ H Q s k => h as σ H _ s fun v as' H' d M' st m r p => by
  obtain ⟨x, rfl, p⟩ := p
  exact ⟨x, r, k x as' H' M' st m p⟩
theorem wt_B (h : WE c te env M (As Bool B)) : WT c (tB te) env M B := wt_test h
theorem wt_not {t : TT} (h : WT c t env M fun b m => B (!b) m) : WT c (tNot t) env M B := fun as σ H Q s k => h as σ H _ s fun b as' H' M' st m p => k _ as' H' M' st m p
theorem wt_and {t u : TT} (h : WT c t env M fun b m => (b = true → WT c u env m B) ∧ (b = false → B false m)) : WT c (tAnd t u) env M B := fun as σ H Q s k => h as σ H _ s fun b as' H' M' st m p => by
  cases b with
  | true =>
    show u σ H'.H Q
    exact p.1 rfl as' σ H' Q (s.step st m) fun b2 as2 H2 M2 st2 m2 p2 => k b2 as2 H2 M2 (st.trans st2) m2 p2
  | false => exact k false as' H' M' st m (p.2 rfl)
theorem wt_or {t u : TT} (h : WT c t env M fun b m => (b = false → WT c u env m B) ∧ (b = true → B true m)) : WT c (tOr t u) env M B := fun as σ H Q s k => h as σ H _ s fun b as' H' M' st m p => by
  cases b with
  | false =>
    show u σ H'.H Q
    exact p.1 rfl as' σ H' Q (s.step st m) fun b2 as2 H2 M2 st2 m2 p2 => k b2 as2 H2 M2 (st.trans st2) m2 p2
  | true => exact k true as' H' M' st m (p.2 rfl)
theorem wt_yes (p : B true M) : WT c tYes env M B := fun as σ H Q s k => k true as H M (.refl _ _) s.me p
theorem we_andV (h : WE c ta env M (As Bool fun b m => (b = true → WE c tb env m P) ∧ (b = false → P (dy false) m))) : WE c (tAndV ta tb) env M P := fun as σ H Q s k => h as σ H _ s fun v as' H' b M' st m r p => by
  obtain ⟨b, rfl, p⟩ := p
  refine ⟨b, r, ?_⟩
  cases b with
  | true =>
    show tb σ H'.H Q
    exact p.1 rfl as' σ H' Q (s.step st m) fun v2 as2 H2 b2 M2 st2 m2 r2 p2 => k v2 as2 H2 b2 M2 (st.trans st2) m2 r2 p2
  | false => exact k _ as' H' (dy false) M' st m rfl (p.2 rfl)
theorem we_orV (h : WE c ta env M (As Bool fun b m => (b = false → WE c tb env m P) ∧ (b = true → P (dy true) m))) : WE c (tOrV ta tb) env M P := fun as σ H Q s k => h as σ H _ s fun v as' H' b M' st m r p => by
  obtain ⟨b, rfl, p⟩ := p
  refine ⟨b, r, ?_⟩
  cases b with
  | false =>
    show tb σ H'.H Q
    exact p.1 rfl as' σ H' Q (s.step st m) fun v2 as2 H2 b2 M2 st2 m2 r2 p2 => k v2 as2 H2 b2 M2 (st.trans st2) m2 r2 p2
  | true => exact k _ as' H' (dy true) M' st m rfl (p.2 rfl)
theorem we_notV (h : WE c ta env M (As Bool fun b m => P (dy (!b)) m)) : WE c (tNotV ta) env M P := fun as σ H Q s k => h as σ H _ s fun v as' H' b M' st m r p => by
  obtain ⟨b, rfl, p⟩ := p
  exact ⟨b, r, k _ as' H' (dy (!b)) M' st m rfl p⟩
theorem we_if {t : TT} (h : WT c t env M fun b m => (b = true → WE c ta env m P) ∧ (b = false → WE c tb env m P)) : WE c (tIf t ta tb) env M P := fun as σ H Q s k => h as σ H _ s fun b as' H' M' st m p => by
  cases b with
  | true =>
    show ta σ H'.H Q
    exact p.1 rfl as' σ H' Q (s.step st m) fun v2 as2 H2 b2 M2 st2 m2 r2 p2 => k v2 as2 H2 b2 M2 (st.trans st2) m2 r2 p2
  | false =>
    show tb σ H'.H Q
    exact p.2 rfl as' σ H' Q (s.step st m) fun v2 as2 H2 b2 M2 st2 m2 r2 p2 => k v2 as2 H2 b2 M2 (st.trans st2) m2 r2 p2
/-- a < b < c -/
theorem we_chain {r r' : R2} {tc : TE}
    (h : WE c ta env M fun x M1 => WE c tb env M1 fun y M2 => RR c r x y M2 (As Bool fun b M3 => (b = true → WE c tc env M3 fun z M4 => RR c r' y z M4 P) ∧ (b = false → P (dy false) M3))) : WE c (tChain r r' ta tb tc) env M P := fun as σ H Q s k =>
  h as σ H _ s fun v as1 H1 x M1 st1 m1 r1 p1 => p1 as1 σ H1 _ (s.step st1 m1) fun w as2 H2 y M2 st2 m2 r2 p2 =>
    p2 as2 H2 v w _ m2 (x.mono st2.ex st2.pre r1) r2 fun u as3 H3 b M3 st3 m3 r3 p3 => by
      obtain ⟨b, rfl, p3⟩ := p3
      refine ⟨b, r3, ?_⟩
      cases b with
      | true =>
        show tc σ H3.H _
        exact p3.1 rfl as3 σ H3 _ (s.step ((st1.trans st2).trans st3) m3) fun w' as4 H4 z M4 st4 m4 r4 p4 =>
          p4 as4 H4 w w' Q m4 (y.mono (st3.trans st4).ex (st3.trans st4).pre r2) r4 fun u' as5 H5 b' M5 st5 m5 r5 p5 => k u' as5 H5 b' M5 ((((st1.trans st2).trans st3).trans st4).trans st5) m5 r5 p5
      | false =>
        show Q (.bl false) H3.H
        exact k _ as3 H3 (dy false) M3 ((st1.trans st2).trans st3) m3 rfl (p3.2 rfl)
/-! ### arguments, calls of built-ins -/
theorem wa_nil {P : List Dy → Mem → Prop} (p : P [] M) : WA c tNil env M P := fun as σ H Q s k => k [] as H [] M (.refl _ _) s.me .nil p
theorem wa_cons {tr : TA} {P : List Dy → Mem → Prop} (h : WE c te env M fun x M1 => WA c tr env M1 fun ds M2 => P (x :: ds) M2) : WA c (tCons te tr) env M P := fun as σ H Q s k =>
  h as σ H _ s fun v as1 H1 x M1 st1 m1 r1 p1 => p1 as1 σ H1 _ (s.step st1 m1) fun vs as2 H2 ds M2 st2 m2 r2 p2 =>
    k (v :: vs) as2 H2 (x :: ds) M2 (st1.trans st2) m2 (.cons (x.mono st2.ex st2.pre r1) r2) p2
/-- a call on values -/
def RC (c : Cc) (r : List V → Hp → VK → Prop) (ds : List Dy) (M : Mem) (P : Dy → Mem → Prop) : Prop :=
  ∀ as W (vs : List V) (Q : VK), MemOk c as W M → RepDs c W.F as vs ds → (∀ u as' w' z M', Step as W as' w' → MemOk c as' w' M' → z.h c w'.F as' u → P z M' → Q u w'.H) → r vs W.H Q
theorem we_cb {r : List V → Hp → VK → Prop} {t : TA} (h : WA c t env M fun ds M1 => RC c r ds M1 P) : WE c (tCB r t) env M P := fun as σ H Q s k =>
  h as σ H _ s fun vs as1 H1 ds M1 st1 m1 r1 p1 => p1 as1 H1 vs Q m1 r1 fun u as2 H2 z M2 st2 m2 r2 p2 => k u as2 H2 z M2 (st1.trans st2) m2 r2 p2
theorem RepDs.one {F : Hp} {as : List Addr} {vs : List V} {x : Dy} (h : RepDs c F as vs [x]) : ∃ v, vs = [v] ∧ x.h c F as v := by
  cases h with
  | cons r t => cases t; exact ⟨_, rfl, r⟩
theorem RepDs.two {F : Hp} {as : List Addr} {vs : List V} {x y : Dy} (h : RepDs c F as vs [x, y]) : ∃ v w, vs = [v, w] ∧ x.h c F as v ∧ y.h c F as w := by
  cases h with
  | cons r t => obtain ⟨w, rfl, r2⟩ := RepDs.one t; exact ⟨_, w, rfl, r, r2⟩
theorem RepDs.three {F : Hp} {as : List Addr} {vs : List V} {x y z : Dy} (h : RepDs c F as vs [x, y, z]) : ∃ v w u, vs = [v, w, u] ∧ x.h c F as v ∧ y.h c F as w ∧ z.h c F as u := by
  cases h with
  | cons r t => obtain ⟨w, u, rfl, r2, r3⟩ := RepDs.two t; exact ⟨_, w, u, rfl, r, r2, r3⟩
theorem rc_pure {r : List V → Hp → VK → Prop} {ds : List Dy} {z : Dy} (h : ∀ as W (vs : List V) (Q : VK), MemOk c as W M → RepDs c W.F as vs ds → (∀ u, z.h c W.F as u → Q u W.H) → r vs W.H Q) (p : P z M) : RC c r ds M P :=
  fun as H vs Q m r1 k => h as H vs Q m r1 fun u ru => k u as H z M (.refl _ _) m ru p
/-! ### new objects -/
theorem sqt_of {K : PySem.W.Frag} {F : Hp} {p : Addr} {vs : List V} (h : F p = some (.tup vs)) : SqT K F p vs := .inl (.inl h)
theorem sql_of {K : PySem.W.Frag} {F : Hp} {p : Addr} {vs : List V} (h : F p = some (.lst vs)) : SqL K F p vs := .inl (.inl h)
/-- a new object that is not to change -/
theorem new_obj {as : List Addr} {W : Hw} {o : HO} {Q : VK} {z : Dy} (m : MemOk c as W M) (hz : ∀ p F', F' p = some o → Ex W.F F' → z.h c F' as (.ref p))
    (k : ∀ u as' w' z M', Step as W as' w' → MemOk c as' w' M' → z.h c w'.F as' u → P z M' → Q u w'.H) (p : P z M) : ∀ p, W.H p = none → Q (.ref p) (upd W.H p o) := fun q hq => by
  obtain ⟨st, m'⟩ := MemOk.new (o := o) m hq
  exact k _ as _ z M st m' (hz q _ upd_same st.ex) p
/-- what a display's items make -/
def TupOk (c : Cc) (ds : List Dy) (P : Dy → Mem → Prop) (M : Mem) : Prop := ∃ z : Dy, ds.length ≤ 100000 ∧ (∀ as F vs p, RepDs c F as vs ds → F p = some (.tup vs) → z.h c F as (.ref p)) ∧ P z M
theorem small_le {n : Nat} (h : n ≤ 100000) : n ≤ sizeLine := Nat.le_trans h (by decide)
theorem RepDs.length {F : Hp} {as : List Addr} {vs : List V} {ds : List Dy} (h : RepDs c F as vs ds) : vs.length = ds.length := Paired.length h
theorem we_tup {t : TA} (h : WA c t env M fun ds M1 => TupOk c ds P M1) : WE c (tTup t) env M P := fun as σ H Q s k =>
  h as σ H _ s fun vs as1 H1 ds M1 st1 m1 r1 p1 => by
    obtain ⟨z, hl, hz, p⟩ := p1
    exact ⟨small_le (by rw [r1.length]; exact hl), new_obj m1 (fun q F' hq e => hz as1 F' vs q (r1.mono e (List.prefix_refl _)) hq) (fun u as' w' z M' st m r p => k u as' w' z M' (st1.trans st) m r p) p⟩
theorem tup_pair {x : α} {y : β} (p : P (dy (x, y)) M) : TupOk c [dy x, dy y] P M := ⟨dy (x, y), by simp, fun as F vs q r hq => by
  obtain ⟨v, w, rfl, r1, r2⟩ := r.two
  exact ⟨q, v, w, rfl, sqt_of hq, r1, r2⟩, p⟩
theorem tup_three {x : α} {y : β} {z : γ} (p : P (dy (T3.mk x y z)) M) : TupOk c [dy x, dy y, dy z] P M := ⟨dy (T3.mk x y z), by simp, fun as F vs q r hq => by
  obtain ⟨v, w, u, rfl, r1, r2, r3⟩ := r.three
  exact ⟨q, v, w, u, rfl, sqt_of hq, r1, r2, r3⟩, p⟩
theorem repl_of {F : Hp} {as : List Addr} : ∀ {vs : List V} {xs : List α}, RepDs c F as vs (xs.map dy) → RepL c F as vs xs
  | _, [], .nil => .nil
  | _, x :: xs, .cons r t => .cons r (repl_of t)
theorem of_repl {F : Hp} {as : List Addr} : ∀ {vs : List V} {xs : List α}, RepL c F as vs xs → RepDs c F as vs (xs.map dy)
  | _, [], .nil => .nil
  | _, x :: xs, .cons r t => .cons r (of_repl t)
theorem tup_tp {ds : List Dy} (xs : List α) (e : ds = xs.map dy) (hl : xs.length ≤ 100000) (p : P (dy (Tp.mk xs)) M) : TupOk c ds P M := ⟨dy (Tp.mk xs), by rw [e, List.length_map]; exact hl, fun as F vs q r hq => ⟨q, vs, rfl, sqt_of hq, repl_of (e ▸ r)⟩, p⟩
theorem we_lst {t : TA} (h : WA c t env M fun ds M1 => ∃ xs : List α, ds = xs.map dy ∧ ds.length ≤ 100000 ∧ P (dy xs) M1) : WE c (tLst t) env M P := fun as σ H Q s k =>
  h as σ H _ s fun vs as1 H1 ds M1 st1 m1 r1 p1 => by
    obtain ⟨xs, rfl, hl, p⟩ := p1
    exact ⟨small_le (by rw [r1.length]; exact hl), new_obj (z := dy xs) m1 (fun q F' hq e => ⟨q, vs, rfl, sql_of hq, repl_of (r1.mono e (List.prefix_refl _))⟩) (fun u as' w' z M' st m r p => k u as' w' z M' (st1.trans st) m r p) p⟩
/-- a new list that will change -/
theorem we_lstC {t : TA} (h : WA c t env M fun ds M1 => ∃ xs : List α, ds = xs.map dy ∧ ds.length ≤ 100000 ∧ P (dy (MR.mk M1.length)) (M1 ++ [cLst xs])) : WE c (tLst t) env M P := fun as σ H Q s k =>
  h as σ H _ s fun vs as1 H1 ds M1 st1 m1 r1 p1 => by
    obtain ⟨xs, rfl, hl, p⟩ := p1
    refine ⟨small_le (by rw [r1.length]; exact hl), fun q hq => ?_⟩
    obtain ⟨st, m'⟩ := MemOk.newCell (o := .lst vs) (d := cLst xs) m1 hq ⟨vs, rfl, repl_of r1⟩
    exact k _ _ _ (dy (MR.mk M1.length)) _ (st1.trans st) m' ⟨q, by show (as1 ++ [q])[M1.length]? = some q; rw [m1.len]; simp, rfl⟩ p
end
end Zq
end
section
set_option Elab.async false
set_option linter.all false
set_option maxRecDepth 100000
/-! Statements, loops, comprehensions, defs over data and cells. -/
namespace Zq
open PySem PySem.Spec PyProof.Rows L2
open Rep (rep)
section
variable (c : Cc)
/-- a target of an assignment; ts: the slots that it may set -/
def WG (ts : List Nat) (g : TG) (x : Dy) (env : Env') (M : Mem) (nx : Env' → Mem → Prop) : Prop :=
  ∀ as σ w v (N : L2.St → Hp → Prop), Sta c env M as σ w → x.h c w.F as v →
    (∀ env' M' as' σ' w', Step as w as' w' → Sta c env' M' as' σ' w' → (∀ vs : List Nat, (∀ t ∈ ts, t ∈ vs) → wipe σ' vs = wipe σ vs) → nx env' M' → N σ' w'.H) → g v σ w.H N
/-- a statement; k: how many cells are the caller's -/
def WS (k : Nat) (ts : TS) (env : Env') (M : Mem) (nx : Env' → Mem → Prop) (rt : Dy → Mem → Prop) : Prop :=
  ∀ as σ w (D : Ends), Sta c env M as σ w →
    (∀ env' M' as' σ' w', Step as w as' w' → Sta c env' M' as' σ' w' → nx env' M' → D.nx σ' w'.H) →
    (∀ v as' w' (x : Dy) M', Step as w as' w' → MemOk c (as'.take k) w' M' → x.h c w'.F (as'.take k) v → rt x M' → D.rt v w'.H) → ts D σ w.H
end
theorem wipe_set {σ : L2.St} {i : Nat} {x : Option V} : ∀ {vs : List Nat}, i ∈ vs → wipe (σ.set i x) vs = wipe σ vs
  | [], h => by cases h
  | v :: vs, h => by
    show (wipe (σ.set i x) vs).set v none = (wipe σ vs).set v none
    by_cases hi : i ∈ vs
    · rw [wipe_set hi]
    · have : i = v := by
        rcases List.mem_cons.mp h with e | e
        · exact e
        · exact absurd e hi
      subst this
      apply List.ext_getElem?
      intro j
      rw [List.getElem?_set, List.getElem?_set, wipe_length, wipe_length, List.length_set]
      by_cases e : i = j
      · rw [if_pos e, if_pos e]
      · rw [if_neg e, if_neg e]
        have key : ∀ (vs : List Nat), (wipe (σ.set i x) vs)[j]? = (wipe σ vs)[j]? := by
          intro vs
          induction vs with
          | nil => show (σ.set i x)[j]? = σ[j]?; rw [List.getElem?_set, if_neg e]
          | cons w ws ih =>
            show ((wipe (σ.set i x) ws).set w none)[j]? = ((wipe σ ws).set w none)[j]?
            rw [List.getElem?_set, List.getElem?_set, wipe_length, wipe_length, List.length_set, ih]
        exact key vs
def wipeE (env : Env') : List Nat → Env'
  | [] => env
  | v :: vs => (wipeE env vs).set v none
theorem SlotsOk.wipe {c F as σ env} (h : SlotsOk c F as σ env) : ∀ vs : List Nat, SlotsOk c F as (L2.wipe σ vs) (wipeE env vs)
  | [] => h
  | v :: vs => by
    have ih := SlotsOk.wipe h vs
    refine ⟨by show ((L2.wipe σ vs).set v none).length = ((wipeE env vs).set v none).length; rw [List.length_set, List.length_set, ih.len], fun j d q => ?_⟩
    have q' : ((wipeE env vs).set v none)[j]? = some (some d) := q
    show ∃ w, ((L2.wipe σ vs).set v none)[j]? = some (some w) ∧ _
    rw [List.getElem?_set] at q'
    by_cases e : v = j
    · rw [if_pos e] at q'; split at q' <;> cases q'
    · rw [if_neg e] at q'
      obtain ⟨w, h1, h2⟩ := ih.at_ j d q'
      exact ⟨w, by rw [List.getElem?_set, if_neg e]; exact h1, h2⟩
section
variable {c : Cc} {env : Env'} {M : Mem} {α β γ : Type} [Rep α] [Rep β] [Rep γ] {ta tb te : TE} {k : Nat} {nx : Env' → Mem → Prop} {rt : Dy → Mem → Prop} {P : Dy → Mem → Prop}
/-! ### targets -/
theorem wg_name {i : Nat} {x : Dy} (p : nx (env.set i (some x)) M) : WG c [i] (gName i) x env M nx := fun as σ H v N s r q =>
  q _ M as _ H (.refl _ _) ⟨s.sl.set i r, s.me⟩ (fun vs h => wipe_set (h i (by simp))) p
theorem wg_tup2 {g1 g2 : TG} {t1 t2 : List Nat} {x : α × β} (h : WG c t1 g1 (dy x.1) env M fun e m => WG c t2 g2 (dy x.2) e m nx) : WG c (t1 ++ t2) (gTup c.K 2 (gCons g1 (gCons g2 gNil))) (dy x) env M nx := fun as σ H v N s r q => by
  obtain ⟨a, v1, v2, rfl, hs, r1, r2⟩ := r
  refine ⟨a, [v1, v2], rfl, sqT_mono s.me.ex hs, rfl, v1, [v2], rfl, ?_⟩
  refine h as σ H v1 _ s r1 fun e1 m1 as1 σ1 H1 st1 s1 w1 p1 => ⟨v2, [], rfl, ?_⟩
  refine p1 as1 σ1 H1 v2 _ s1 (Rep.mono st1.ex st1.pre r2) fun e2 m2 as2 σ2 H2 st2 s2 w2 p2 => ⟨rfl, ?_⟩
  exact q e2 m2 as2 σ2 H2 (st1.trans st2) s2 (fun vs hv => (w2 vs fun t ht => hv t (List.mem_append_right _ ht)).trans (w1 vs fun t ht => hv t (List.mem_append_left _ ht))) p2
theorem wg_tup3 {g1 g2 g3 : TG} {t1 t2 t3 : List Nat} {x : T3 α β γ} (h : WG c t1 g1 (dy x.a) env M fun e m => WG c t2 g2 (dy x.b) e m fun e m => WG c t3 g3 (dy x.c) e m nx) : WG c (t1 ++ (t2 ++ t3)) (gTup c.K 3 (gCons g1 (gCons g2 (gCons g3 gNil)))) (dy x) env M nx := fun as σ H v N s r q => by
  obtain ⟨a, v1, v2, v3, rfl, hs, r1, r2, r3⟩ := r
  refine ⟨a, [v1, v2, v3], rfl, sqT_mono s.me.ex hs, rfl, v1, [v2, v3], rfl, ?_⟩
  refine h as σ H v1 _ s r1 fun e1 m1 as1 σ1 H1 st1 s1 w1 p1 => ⟨v2, [v3], rfl, ?_⟩
  refine p1 as1 σ1 H1 v2 _ s1 (Rep.mono st1.ex st1.pre r2) fun e2 m2 as2 σ2 H2 st2 s2 w2 p2 => ⟨v3, [], rfl, ?_⟩
  refine p2 as2 σ2 H2 v3 _ s2 (Rep.mono (st1.trans st2).ex (st1.trans st2).pre r3) fun e3 m3 as3 σ3 H3 st3 s3 w3 p3 => ⟨rfl, ?_⟩
  exact q e3 m3 as3 σ3 H3 ((st1.trans st2).trans st3) s3 (fun vs hv => ((w3 vs fun t ht => hv t (by simp [ht])).trans (w2 vs fun t ht => hv t (by simp [ht]))).trans (w1 vs fun t ht => hv t (by simp [ht]))) p3
def okE (n : Nat) : Env' → Prop
  | [] => True
  | none :: e => okE n e
  | some d :: e => d.ok n ∧ okE n e
def okM (n : Nat) : Mem → Prop
  | [] => True
  | d :: e => d.ok n ∧ okM n e
theorem okE_at {n : Nat} : ∀ {e : Env'} {i : Nat} {d : Dy}, okE n e → e[i]? = some (some d) → d.ok n
  | [], _, _, _, h => by simp at h
  | none :: e, 0, d, h, q => by simp at q
  | some d' :: e, 0, d, h, q => by
    have : d' = d := by simpa using q
    subst this; exact h.1
  | none :: e, i + 1, d, h, q => okE_at (e := e) (i := i) h (by simpa using q)
  | some d' :: e, i + 1, d, h, q => okE_at (e := e) (i := i) h.2 (by simpa using q)
theorem okM_at {n : Nat} : ∀ {e : Mem} {i : Nat} {d : Cell}, okM n e → e[i]? = some d → d.ok n
  | [], _, _, _, h => by simp at h
  | d' :: e, 0, d, h, q => by
    have : d' = d := by simpa using q
    subst this; exact h.1
  | d' :: e, i + 1, d, h, q => okM_at (e := e) (i := i) h.2 (by simpa using q)
/-! ### statements -/
theorem WS.mono {ts : TS} {nx' : Env' → Mem → Prop} {rt' : Dy → Mem → Prop} (h : WS c k ts env M nx rt) (k1 : ∀ e m, nx e m → nx' e m) (k2 : ∀ x m, rt x m → rt' x m) : WS c k ts env M nx' rt' := fun as σ H D s q1 q2 =>
  h as σ H D s (fun e m as' σ' H' st s' p => q1 e m as' σ' H' st s' (k1 _ _ p)) fun v as' H' x m st mm r p => q2 v as' H' x m st mm r (k2 _ _ p)
theorem ws_frg {ts : TS} {env' : Env'} (f : Frg env env') (h : WS c k ts env' M nx rt) : WS c k ts env M nx rt := fun as σ H D s q1 q2 => h as σ H D ⟨s.sl.frg f, s.me⟩ q1 q2
theorem ws_next (p : nx env M) : WS c k tNext env M nx rt := fun as σ H D s q1 q2 => q1 env M as σ H (.refl _ _) s p
theorem ws_seq {t u : TS} (h : WS c k t env M (fun e m => WS c k u e m nx rt) rt) : WS c k (tSeq t u) env M nx rt := fun as σ H D s q1 q2 =>
  h as σ H { D with nx := u D } s (fun e m as' σ' H' st s' p => p as' σ' H' D s' (fun e2 m2 as2 σ2 H2 st2 s2 p2 => q1 e2 m2 as2 σ2 H2 (st.trans st2) s2 p2) fun v as2 H2 x m2 st2 mm2 r2 p2 => q2 v as2 H2 x m2 (st.trans st2) mm2 r2 p2) q2
theorem ws_asgG {g : TG} {ts : List Nat} (h : WE c te env M fun x m => WG c ts g x env m nx) : WS c k (tAsg te g) env M nx rt := fun as σ H D s q1 q2 =>
  h as σ H _ s fun v as1 H1 x m1 st1 mm1 r1 p1 => p1 as1 σ H1 v D.nx (s.step st1 mm1) r1 fun e2 m2 as2 σ2 H2 st2 s2 _ p2 => q1 e2 m2 as2 σ2 H2 (st1.trans st2) s2 p2
theorem ws_asg {i : Nat} (h : WE c te env M fun x m => nx (env.set i (some x)) m) : WS c k (tAsg te (gName i)) env M nx rt := ws_asgG (ts := [i]) (h.mono fun x m p => wg_name p)
theorem ws_drop (h : WE c te env M fun x m => nx env m) : WS c k (tDrop te) env M nx rt := fun as σ H D s q1 q2 =>
  h as σ H _ s fun v as1 H1 x m1 st1 mm1 r1 p1 => q1 env m1 as1 σ H1 st1 (s.step st1 mm1) p1
theorem MemOk.take {c as w M} (m : MemOk c as w M) (k : Nat) (hk : okM k (M.take k)) : MemOk c (as.take k) w (M.take k) := by
  refine ⟨(List.take_sublist _ _).nodup m.nd, by rw [List.length_take, List.length_take, m.len], m.ex, fun a h => m.dis a (List.mem_of_mem_take h), fun j d q => ?_⟩
  have hd := okM_at hk q
  rw [List.getElem?_take] at q
  split at q
  · rename_i hjk
    obtain ⟨a, o, h1, h2, h3⟩ := m.at_ j d q
    exact ⟨a, o, by rw [List.getElem?_take, if_pos hjk]; exact h1, h2, d.cut hd h3⟩
  · cases q
theorem ws_ret (h : WE c te env M fun x m => x.ok k ∧ okM k (m.take k) ∧ rt x (m.take k)) : WS c k (tRet te) env M nx rt := fun as σ H D s q1 q2 =>
  h as σ H _ s fun v as1 H1 x m1 st1 mm1 r1 p1 => q2 v as1 H1 x _ st1 (mm1.take k p1.2.1) (x.cut p1.1 r1) p1.2.2
/-- a list of this def's own, handed out -/
theorem ws_retC (h : WE c te env M (As MR fun x m => ∃ xs : List α, k ≤ x.k ∧ m[x.k]? = some (cLst xs) ∧ okL k xs ∧ okM k (m.take k) ∧ rt (dy xs) (m.take k))) : WS c k (tRet te) env M nx rt := fun as σ H D s q1 q2 =>
  h as σ H _ s fun v as1 H1 x m1 st1 mm1 r1 p1 => by
    obtain ⟨x, rfl, xs, hk, hm, hok, hok2, p⟩ := p1
    obtain ⟨a, o, ha, ho, vs, rfl, hr⟩ := mm1.at_ _ _ hm
    obtain ⟨a', ha', rfl⟩ := r1
    rw [ha] at ha'; cases ha'
    have hain : a ∈ as1 := List.mem_of_getElem? ha
    have hF : H1.F a = none := mm1.dis a hain
    have hnot : a ∉ as1.take k := fun z => by
      obtain ⟨j, hj, e⟩ := List.getElem_of_mem z
      rw [List.getElem_take] at e
      obtain ⟨l1, g1⟩ := List.getElem?_eq_some_iff.mp ha
      have hjk : j < k := by rw [List.length_take] at hj; omega
      have := (List.getElem_inj mm1.nd).mp (e.trans g1.symm)
      omega
    have ex : Ex H1.F (upd H1.F a (.lst vs)) := Evl.Ex.new hF
    have mk := mm1.take k hok2
    refine q2 _ as1 ⟨upd H1.F a (.lst vs), H1.H⟩ (dy xs) _ (st1.trans ⟨List.prefix_refl _, ex, fun b h h' => ?_, fun b h h' => absurd h h', fun b u h _ => h, fun b h => h⟩) ⟨mk.nd, mk.len, fun b u h => ?_, fun b h => ?_, fun j d q => ?_⟩ ⟨a, vs, rfl, sql_of upd_same, ?_⟩ p
    · by_cases z : b = a
      · rw [z]; exact .inr hain
      · dsimp only at h'; rw [upd_ne z] at h'; exact absurd h h'
    · dsimp only at h ⊢
      by_cases z : b = a
      · subst z; rw [upd_same] at h; cases h; exact ho
      · rw [upd_ne z] at h; exact mm1.ex b u h
    · dsimp only
      rw [upd_ne (fun z => hnot (by rw [← z]; exact h))]; exact mk.dis b h
    · obtain ⟨b, o', h1, h2, h3⟩ := mk.at_ j d q
      exact ⟨b, o', h1, h2, d.mono ex (List.prefix_refl _) h3⟩
    · exact RepL.mono ex (List.prefix_refl _) (RepL.cut hok hr)
theorem ws_retN (ok : okM k (M.take k)) (p : rt (dy ()) (M.take k)) : WS c k tRetN env M nx rt := fun as σ H D s q1 q2 => q2 .non as H (dy ()) _ (.refl _ _) (s.me.take k ok) rfl p
theorem ws_dead {t : TS} (h : False) : WS c k t env M nx rt := h.elim
theorem ws_if {t : TT} {tu tw : TS} (h : WT c t env M fun b m => (b = true → WS c k tu env m nx rt) ∧ (b = false → WS c k tw env m nx rt)) : WS c k (tIfS t tu tw) env M nx rt := fun as σ H D s q1 q2 =>
  h as σ H _ s fun b as1 H1 m1 st1 mm1 p1 => by
    cases b with
    | true =>
      show tu D σ H1.H
      exact p1.1 rfl as1 σ H1 D (s.step st1 mm1) (fun e2 m2 as2 σ2 H2 st2 s2 p2 => q1 e2 m2 as2 σ2 H2 (st1.trans st2) s2 p2) fun v as2 H2 x m2 st2 mm2 r2 p2 => q2 v as2 H2 x m2 (st1.trans st2) mm2 r2 p2
    | false =>
      show tw D σ H1.H
      exact p1.2 rfl as1 σ H1 D (s.step st1 mm1) (fun e2 m2 as2 σ2 H2 st2 s2 p2 => q1 e2 m2 as2 σ2 H2 (st1.trans st2) s2 p2) fun v as2 H2 x m2 st2 mm2 r2 p2 => q2 v as2 H2 x m2 (st1.trans st2) mm2 r2 p2
theorem ws_aug {i : Nat} {f : Int → Int → Int} {a : Int} (hx : env[i]? = some (some (dy a))) (h : WE c te env M (As Int fun b m => nx (env.set i (some (dy (f a b)))) m)) : WS c k (tAug i te (ipI f)) env M nx rt := fun as σ H D s q1 q2 => by
  obtain ⟨v, hv, hr⟩ := s.sl.at_ i _ hx
  have hr : v = .int a := hr
  subst hr
  refine ⟨_, hv, h as σ H _ s fun w as1 H1 b m1 st1 mm1 r1 p1 => ?_⟩
  obtain ⟨b, rfl, p1⟩ := p1
  have r1 : w = .int b := r1
  subst r1
  have s1 := s.step st1 mm1
  exact ⟨a, b, rfl, rfl, q1 _ m1 as1 _ H1 st1 ⟨s1.sl.set i (d := dy (f a b)) rfl, mm1⟩ p1⟩
/-! ### forgetting -/
/-- e, m tell all that e', m' tell; m' has n cells -/
structure Cut (n : Nat) (e : Env') (m : Mem) (e' : Env') (m' : Mem) : Prop where
  frg : Frg e e'
  oe : okE n e'
  om : okM n m'
  tk : m.take n = m'
theorem Sta.cut {c : Cc} {e m e' m' as σ w n} (s : Sta c e m as σ w) (u : Cut n e m e' m') : Sta c e' m' (as.take n) σ w := by
  refine ⟨⟨s.sl.len.trans u.frg.1, fun i d q => ?_⟩, ?_⟩
  · obtain ⟨v, h1, h2⟩ := s.sl.at_ i d (u.frg.2 i d q)
    exact ⟨v, h1, d.cut (okE_at u.oe q) h2⟩
  · have := s.me.take n (by rw [u.tk]; exact u.om)
    rw [u.tk] at this; exact this
theorem Step.cut {as w as' w' n} (st : Step as w as' w') (hn : as.length ≤ n) : Step as w (as'.take n) w' := by
  refine ⟨?_, st.ex, st.fr, fun a h h' => st.frA a (List.mem_of_mem_take h) h', st.keep, st.dom⟩
  obtain ⟨t, rfl⟩ := st.pre
  exact ⟨t.take (n - as.length), by rw [List.take_append]; rw [List.take_of_length_le hn]⟩
/-! ### what is walked -/
/-- J walks xs, whatever is done meanwhile -/
structure Walks (c : Cc) (J : It) (as : List Addr) (w : Hw) (xs : List Dy) : Prop where
  go : ∀ i as' w' M, Step as w as' w' → MemOk c as' w' M → i < xs.length → J.go i w'.H
  stop : ∀ i as' w' M, Step as w as' w' → MemOk c as' w' M → i = xs.length → J.stop i w'.H
  yld : ∀ i as' w' x v H2 M, Step as w as' w' → MemOk c as' w' M → xs[i]? = some x → J.yld i w'.H v H2 → ∃ F2, Step as' w' as' ⟨F2, H2⟩ ∧ MemOk c as' ⟨F2, H2⟩ M ∧ x.h c F2 as' v
def WI (c : Cc) (wi : TI) (env : Env') (M : Mem) (P : List Dy → Mem → Prop) : Prop :=
  ∀ as σ w (R : It → Hp → Prop), Sta c env M as σ w → (∀ J as' w' (xs : List Dy) M', Step as w as' w' → MemOk c as' w' M' → Walks c J as' w' xs → P xs M' → R J w'.H) → wi σ w.H R
theorem step_len {as w as' w'} (st : Step as w as' w') : as.length ≤ as'.length := st.pre.length_le
/-! ### for: S what the loop leads along, I what holds of it, E and Mm the names and cells -/
theorem ws_for {S : Type} {wi : TI} {g : TG} {tb : TS} {ts : List Nat} (I : List β → S → Prop) (E : S → Env') (Mm : S → Mem)
    (h : WI c wi env M fun ds M1 => ∃ xs : List β, ds = xs.map dy ∧ ∃ s0, I [] s0 ∧ Cut M1.length env M1 (E s0) (Mm s0) ∧
      (∀ pre y post s, xs = pre ++ y :: post → I pre s → WG c ts g (dy y) (E s) (Mm s) fun e m => WS c k tb e m (fun e' m' => ∃ s', I (pre ++ [y]) s' ∧ Cut M1.length e' m' (E s') (Mm s')) rt) ∧
      (∀ s, I xs s → nx (E s) (Mm s))) : WS c k (tFor wi g tb) env M nx rt := fun as σ w D s q1 q2 =>
  h as σ w _ s fun J as1 w1 ds M1 st1 mm1 wk p1 => by
    obtain ⟨xs, rfl, s0, i0, cut0, turn, fin⟩ := p1
    have hml : (xs.map (dy (α := β))).length = xs.length := List.length_map _
    have sa : Sta c env M1 as1 σ w1 := s.step st1 mm1
    have hn : as1.length = M1.length := mm1.len.symm
    have sc : Sta c (E s0) (Mm s0) (as1.take M1.length) σ w1 := sa.cut cut0
    have e1 : as1.take M1.length = as1 := by rw [← hn]; exact List.take_length
    rw [e1] at sc
    refine ⟨fun i m σ' H' => m = xs.length - i ∧ i ≤ xs.length ∧ ∃ as' F' s', Step as1 w1 as' ⟨F', H'⟩ ∧ as'.length = M1.length ∧ I (xs.take i) s' ∧ Sta c (E s') (Mm s') as' σ' ⟨F', H'⟩, ⟨xs.length, by simp, Nat.zero_le _, as1, w1.F, s0, .refl _ _, hn, by simpa using i0, sc⟩, ?_⟩
    rintro i m σ' H' ⟨rfl, hi, as', F', s', st, hl, hI, hS⟩
    by_cases hlt : i < xs.length
    · refine .inr ⟨wk.go i as' _ _ st hS.me (by rw [hml]; exact hlt), fun σ2 H2 => ∃ as2 F2 s2, Step as1 w1 as2 ⟨F2, H2⟩ ∧ as2.length = M1.length ∧ I (xs.take (i + 1)) s2 ∧ Sta c (E s2) (Mm s2) as2 σ2 ⟨F2, H2⟩, fun σ2 H2 ⟨as2, F2, s2, a1, a2, a3, a4⟩ => ⟨xs.length - (i + 1), by omega, rfl, hlt, as2, F2, s2, a1, a2, a3, a4⟩, fun v H2 hy => ?_⟩
      have hx : xs[i]? = some xs[i] := List.getElem?_eq_getElem hlt
      obtain ⟨F2, st2, mm2, rv⟩ := wk.yld i as' _ (dy xs[i]) v H2 _ st hS.me (by rw [List.getElem?_map, hx] <;> rfl) hy
      have hS2 : Sta c (E s') (Mm s') as' σ' ⟨F2, H2⟩ := hS.step st2 mm2
      have spl : xs = xs.take i ++ xs[i] :: xs.drop (i + 1) := by
        rw [← List.drop_eq_getElem_cons hlt, List.take_append_drop]
      have htk : xs.take i ++ [xs[i]] = xs.take (i + 1) := by rw [List.take_add_one, hx] <;> rfl
      refine turn (xs.take i) xs[i] (xs.drop (i + 1)) s' spl hI as' σ' ⟨F2, H2⟩ v _ hS2 rv fun e3 m3 as3 σ3 w3 st3 s3 _ p3 => ?_
      refine p3 as3 σ3 w3 _ s3 (fun e4 m4 as4 σ4 w4 st4 s4 p4 => ?_) fun v4 as4 w4 x m4 st4 mm4 r4 p4 => q2 v4 as4 w4 x m4 ((((st1.trans st).trans st2).trans st3).trans st4) mm4 r4 p4
      obtain ⟨s5, i5, u5⟩ := p4
      have stAll : Step as1 w1 as4 w4 := ((st.trans st2).trans st3).trans st4
      refine ⟨as4.take M1.length, w4.F, s5, stAll.cut (by omega), ?_, by rw [← htk]; exact i5, s4.cut u5⟩
      have := step_len stAll
      rw [List.length_take]; omega
    · have e : i = xs.length := by omega
      subst e
      rw [List.take_length] at hI
      exact .inl ⟨wk.stop _ as' _ _ st hS.me hml.symm, q1 _ _ as' σ' _ (st1.trans st) hS (fin s' hI)⟩
/-! ### while -/
theorem ws_while {S : Type} {tc : TT} {tb : TS} (I : S → Prop) (μ : S → Nat) (E : S → Env') (Mm : S → Mem) (s0 : S) (i0 : I s0) (cut0 : Cut M.length env M (E s0) (Mm s0))
    (turn : ∀ s, I s → WT c tc (E s) (Mm s) fun b m => (b = true → WS c k tb (E s) m (fun e' m' => ∃ s', I s' ∧ μ s' < μ s ∧ Cut M.length e' m' (E s') (Mm s')) rt) ∧ (b = false → nx (E s) m)) : WS c k (tWhile tc tb) env M nx rt := fun as σ w D s q1 q2 => by
  have hn : as.length = M.length := s.me.len.symm
  have sc : Sta c (E s0) (Mm s0) (as.take M.length) σ w := s.cut cut0
  have e1 : as.take M.length = as := by rw [← hn]; exact List.take_length
  rw [e1] at sc
  refine ⟨fun m σ' H' => ∃ as' F' s', m = μ s' ∧ Step as w as' ⟨F', H'⟩ ∧ as'.length = M.length ∧ I s' ∧ Sta c (E s') (Mm s') as' σ' ⟨F', H'⟩, ⟨μ s0, as, w.F, s0, rfl, .refl _ _, hn, i0, sc⟩, ?_⟩
  rintro m σ' H' ⟨as', F', s', rfl, st, hl, hI, hS⟩
  refine turn s' hI as' σ' _ _ hS fun b as2 w2 m2 st2 mm2 p2 => ?_
  cases b with
  | true =>
    rw [if_pos rfl]
    refine ⟨fun σ3 H3 => ∃ as3 F3 s3, μ s3 < μ s' ∧ Step as w as3 ⟨F3, H3⟩ ∧ as3.length = M.length ∧ I s3 ∧ Sta c (E s3) (Mm s3) as3 σ3 ⟨F3, H3⟩, fun σ3 H3 ⟨as3, F3, s3, a0, a1, a2, a3, a4⟩ => ⟨μ s3, a0, as3, F3, s3, rfl, a1, a2, a3, a4⟩, ?_⟩
    refine p2.1 rfl as2 σ' w2 _ (hS.step st2 mm2) (fun e4 m4 as4 σ4 w4 st4 s4 p4 => ?_) fun v4 as4 w4 x m4 st4 mm4 r4 p4 => q2 v4 as4 w4 x m4 ((st.trans st2).trans st4) mm4 r4 p4
    obtain ⟨s5, i5, l5, u5⟩ := p4
    have stAll : Step as w as4 w4 := (st.trans st2).trans st4
    refine ⟨as4.take M.length, w4.F, s5, l5, stAll.cut (by omega), ?_, i5, s4.cut u5⟩
    have := step_len stAll
    rw [List.length_take]; omega
  | false =>
    rw [if_neg Bool.false_ne_true]
    exact q1 _ _ as2 σ' w2 (st.trans st2) (hS.step st2 mm2) (p2.2 rfl)
/-! ### comprehensions -/
theorem Step.unhide {as w as' w' D} (st : Step (as ++ [D]) w as' w') (hl : as'.length = as.length + 1) : as' = as ++ [D] := by
  obtain ⟨t, rfl⟩ := st.pre
  have : t.length = 0 := by
    simp only [List.length_append, List.length_cons, List.length_nil] at hl; omega
  rw [List.length_eq_zero_iff.mp this]; simp
theorem wipe_none {σ : L2.St} {t : Nat} : ∀ {vs : List Nat}, t ∈ vs → ∀ y, (wipe σ vs)[t]? = some y → y = none
  | [], h', _, _ => by cases h'
  | w :: ws, h', y', q' => by
    have q' : ((wipe σ ws).set w none)[t]? = some y' := q'
    rw [List.getElem?_set] at q'
    by_cases e : w = t
    · rw [if_pos e] at q'; split at q'
      · cases q'; rfl
      · cases q'
    · rw [if_neg e] at q'
      rcases List.mem_cons.mp h' with z | z
      · exact absurd z.symm e
      · exact wipe_none z y' q'
theorem wipe_idem {σ : L2.St} : ∀ (ws : List Nat), (∀ t ∈ ws, ∀ y, σ[t]? = some y → y = none) → wipe σ ws = σ
  | [], _ => rfl
  | w :: ws, ht => by
    show (wipe σ ws).set w none = σ
    rw [wipe_idem ws fun t h' y q => ht t (List.mem_cons_of_mem _ h') y q]
    apply List.ext_getElem?
    intro j
    rw [List.getElem?_set]
    by_cases e : w = j
    · subst e
      rw [if_pos rfl]
      split
      · rename_i hl'
        rw [List.getElem?_eq_getElem hl', ht w (by simp) _ (List.getElem?_eq_getElem hl')]
      · rename_i hl'
        rw [List.getElem?_eq_none (by omega)]
    · rw [if_neg e]
/-- what a comprehension is asked -/
def LcAsk (c : Cc) (env : Env') {S β γ : Type} [Rep β] [Rep γ] (g : TG) (tt : TT) (te : TE) (vs ts : List Nat) (I : List β → S → List γ → Prop) (Mm : S → Mem) (xs : List β) (M1 : Mem) : Prop :=
  ∀ pre y post s acc, xs = pre ++ y :: post → I pre s acc → (Mm s).length = M1.length ∧ WG c ts g (dy y) (wipeE env vs) (Mm s ++ [cLst acc]) fun e m => WT c tt e m fun b m1 =>
    (b = true → WE c te e m1 (As γ fun z m2 => acc.length < 100000 ∧ ∃ s', I (pre ++ [y]) s' (acc ++ [z]) ∧ m2 = Mm s' ++ [cLst acc])) ∧ (b = false → ∃ s', I (pre ++ [y]) s' acc ∧ m1 = Mm s' ++ [cLst acc])
theorem lc_core {S : Type} {wi : TI} {g : TG} {tt : TT} {te : TE} {vs : List Nat} {ts : List Nat} {Q : VK} {as : List Addr} {σ : L2.St} {w : Hw} (I : List β → S → List γ → Prop) (Mm : S → Mem) (hts : ∀ t ∈ ts, t ∈ vs) (s : Sta c env M as σ w)
    (h : WI c wi env M fun ds M1 => ∃ xs : List β, ds = xs.map dy ∧ ∃ s0, I [] s0 [] ∧ M1 = Mm s0 ∧ LcAsk c env g tt te vs ts I Mm xs M1 ∧
      (∀ s acc, I xs s acc → (Mm s).length = M1.length ∧ ∀ as2 w2 D, Step as w (as2 ++ [D]) w2 → MemOk c (as2 ++ [D]) w2 (Mm s ++ [cLst acc]) → Q (.ref D) w2.H)) : tLc wi g tt te vs σ w.H Q :=
  h as σ w _ s fun J as1 w1 ds M1 st1 mm1 wk p1 D hD => by
    obtain ⟨xs, rfl, s0, i0, rfl, turn, fin⟩ := p1
    have hml : (xs.map (dy (α := β))).length = xs.length := List.length_map _
    have sa := s.step st1 mm1
    obtain ⟨stD, mmD⟩ := MemOk.newCell (d := cLst ([] : List γ)) (o := .lst []) mm1 hD ⟨[], rfl, .nil⟩
    have hn : as1.length = (Mm s0).length := mm1.len.symm
    have hlen : ∀ i s6 acc, i ≤ xs.length → I (xs.take i) s6 acc → (Mm s6).length = (Mm s0).length := fun i s6 acc hi h6 => by
      by_cases h7 : i < xs.length
      · exact (turn (xs.take i) xs[i] (xs.drop (i + 1)) s6 _ (by rw [← List.drop_eq_getElem_cons h7, List.take_append_drop]) h6).1
      · have : xs.take i = xs := List.take_of_length_le (by omega)
        rw [this] at h6
        exact (fin s6 _ h6).1
    refine ⟨fun i m H' => m = xs.length - i ∧ i ≤ xs.length ∧ ∃ F' s' acc, Step (as1 ++ [D]) ⟨w1.F, upd w1.H D (.lst [])⟩ (as1 ++ [D]) ⟨F', H'⟩ ∧ I (xs.take i) s' acc ∧ MemOk c (as1 ++ [D]) ⟨F', H'⟩ (Mm s' ++ [cLst acc]), ⟨xs.length, by simp, Nat.zero_le _, w1.F, s0, [], .refl _ _, by simpa using i0, mmD⟩, ?_⟩
    rintro i m H' ⟨rfl, hi, F', s', acc, st, hI, hM⟩
    have stJ : Step as1 w1 (as1 ++ [D]) ⟨F', H'⟩ := stD.trans st
    by_cases hlt : i < xs.length
    · refine .inr ⟨wk.go i _ _ _ stJ hM (by rw [hml]; exact hlt), fun H2 => ∃ F2 s2 acc2, Step (as1 ++ [D]) ⟨w1.F, upd w1.H D (.lst [])⟩ (as1 ++ [D]) ⟨F2, H2⟩ ∧ I (xs.take (i + 1)) s2 acc2 ∧ MemOk c (as1 ++ [D]) ⟨F2, H2⟩ (Mm s2 ++ [cLst acc2]), fun H2 ⟨F2, s2, acc2, a1, a3, a4⟩ => ⟨xs.length - (i + 1), by omega, rfl, hlt, F2, s2, acc2, a1, a3, a4⟩, fun v H2 hy => ?_⟩
      have hx : xs[i]? = some xs[i] := List.getElem?_eq_getElem hlt
      obtain ⟨F2, st2, mm2, rv⟩ := wk.yld i _ _ (dy xs[i]) v H2 _ stJ hM (by rw [List.getElem?_map, hx] <;> rfl) hy
      have spl : xs = xs.take i ++ xs[i] :: xs.drop (i + 1) := by
        rw [← List.drop_eq_getElem_cons hlt, List.take_append_drop]
      have htk : xs.take i ++ [xs[i]] = xs.take (i + 1) := by rw [List.take_add_one, hx] <;> rfl
      obtain ⟨hle, tr⟩ := turn (xs.take i) xs[i] (xs.drop (i + 1)) s' acc spl hI
      have hS2 : Sta c (wipeE env vs) (Mm s' ++ [cLst acc]) (as1 ++ [D]) (wipe σ vs) ⟨F2, H2⟩ := ⟨(sa.sl.step (stJ.trans st2)).wipe vs, mm2⟩
      refine tr (as1 ++ [D]) (wipe σ vs) ⟨F2, H2⟩ v _ hS2 rv fun e3 m3 as3 σ3 w3 st3 s3 z3 p3 => ?_
      refine ⟨(z3 vs hts).trans (wipe_idem vs fun t ht y q => wipe_none ht y q), ?_⟩
      refine p3 as3 σ3 w3 _ s3 fun b as4 w4 m4 st4 mm4 p4 => ?_
      have stA : Step (as1 ++ [D]) ⟨w1.F, upd w1.H D (.lst [])⟩ as4 w4 := (((st.trans st2).trans st3).trans st4)
      cases b with
      | true =>
        rw [if_pos rfl]
        refine p4.1 rfl as4 σ3 w4 _ (s3.step st4 mm4) fun v5 as5 w5 z m5 st5 mm5 r5 p5 => ?_
        obtain ⟨z, rfl, hsz, s6, i6, rfl⟩ := p5
        rw [htk] at i6
        have stB : Step (as1 ++ [D]) ⟨w1.F, upd w1.H D (.lst [])⟩ as5 w5 := stA.trans st5
        have h6 := hlen (i + 1) s6 _ hlt i6
        have has5 : as5 = as1 ++ [D] := by
          refine Step.unhide stB ?_
          rw [← mm5.len, List.length_append, h6, hn]; rfl
        subst has5
        have hkD : (as1 ++ [D])[(Mm s6).length]? = some D := by
          rw [h6, ← hn]; simp
        obtain ⟨a, o, ha, ho, ws, rfl, hr⟩ := mm5.at_ (Mm s6).length (cLst acc) (by simp)
        rw [hkD] at ha; cases ha
        refine ⟨ws, ho, Nat.lt_of_lt_of_le (by rw [hr.length]; exact hsz) (by decide : 100000 ≤ sizeLine), ?_⟩
        obtain ⟨stP, mmP⟩ := MemOk.put (d := cLst (acc ++ [z])) (o := .lst (ws ++ [v5])) mm5 hkD ⟨_, rfl, hr.append (.cons r5 .nil)⟩
        have e9 : (Mm s6 ++ [cLst acc]).set (Mm s6).length (cLst (acc ++ [z])) = Mm s6 ++ [cLst (acc ++ [z])] := by
          rw [List.set_append_right _ _ (Nat.le_refl _)]; simp
        rw [e9] at mmP
        exact ⟨w5.F, s6, acc ++ [z], stB.trans stP, i6, mmP⟩
      | false =>
        rw [if_neg Bool.false_ne_true]
        obtain ⟨s6, i6, rfl⟩ := p4.2 rfl
        rw [htk] at i6
        have h6 := hlen (i + 1) s6 _ hlt i6
        have has4 : as4 = as1 ++ [D] := by
          refine Step.unhide stA ?_
          rw [← mm4.len, List.length_append, h6, hn]; rfl
        subst has4
        exact ⟨w4.F, s6, acc, stA, i6, mm4⟩
    · have e : i = xs.length := by omega
      subst e
      rw [List.take_length] at hI
      exact .inl ⟨wk.stop _ _ _ _ stJ hM hml.symm, (fin s' acc hI).2 as1 ⟨F', H'⟩ D (st1.trans stJ) hM⟩
/-- the last cell's list, as data -/
theorem last_data {c : Cc} {as : List Addr} {D : Addr} {w : Hw} {Ms : Mem} {acc : List γ} {as0 : List Addr} {w0 : Hw} (st : Step as0 w0 (as ++ [D]) w) (h0 : as0.length ≤ as.length) (m : MemOk c (as ++ [D]) w (Ms ++ [cLst acc])) (ok : okL Ms.length acc) (okm : okM Ms.length Ms) :
    ∃ F', Step as0 w0 as ⟨F', w.H⟩ ∧ MemOk c as ⟨F', w.H⟩ Ms ∧ rep c F' as (.ref D) acc := by
  have hl : Ms.length = as.length := by
    have := m.len
    simp only [List.length_append, List.length_cons, List.length_nil] at this
    omega
  have e1 : (as ++ [D]).take as.length = as := by simp
  have e2 : (Ms ++ [cLst acc]).take Ms.length = Ms := by simp
  have st' := st.cut (n := as.length) h0
  rw [e1] at st'
  obtain ⟨a, o, ha, ho, ws, rfl, hr⟩ := m.at_ Ms.length (cLst acc) (by simp)
  have hD : a = D := by
    rw [hl] at ha; simpa using ha.symm
  subst hD
  have mk := m.take Ms.length (by rw [e2]; exact okm)
  rw [e2, hl, e1] at mk
  obtain ⟨F, H⟩ := w
  obtain ⟨ex, exH, hnot⟩ := MemOk.freeze m ho
  have hF : F a = none := m.dis a (by simp)
  have hnew : w0.H a = none := st.frA a (by simp) fun z => hnot (by
    obtain ⟨t, e⟩ := st'.pre
    rw [← e]; exact List.mem_append_left _ z)
  refine ⟨upd F a (.lst ws), ⟨st'.pre, st'.ex.trans ex, fun b h h' => ?_, st'.frA, st'.keep, st'.dom⟩, ⟨mk.nd, mk.len, exH, fun b hb => ?_, fun j d q => ?_⟩, a, ws, rfl, sql_of upd_same, ?_⟩
  · by_cases z : b = a
    · rw [z]; exact .inl hnew
    · dsimp only at h'; rw [upd_ne z] at h'; exact st'.fr b h h'
  · dsimp only
    rw [upd_ne (fun z => hnot (by rw [← z]; exact hb))]; exact mk.dis b hb
  · obtain ⟨b, o', h1, h2, h3⟩ := mk.at_ j d q
    exact ⟨b, o', h1, h2, d.mono ex (List.prefix_refl _) h3⟩
  · have h4 := RepL.cut (k := as.length) (hl ▸ ok) hr
    rw [e1] at h4
    exact RepL.mono ex (List.prefix_refl _) h4
theorem we_lc {S : Type} {wi : TI} {g : TG} {tt : TT} {te : TE} {vs ts : List Nat} (I : List β → S → List γ → Prop) (Mm : S → Mem) (hts : ∀ t ∈ ts, t ∈ vs)
    (h : WI c wi env M fun ds M1 => ∃ xs : List β, ds = xs.map dy ∧ ∃ s0, I [] s0 [] ∧ M1 = Mm s0 ∧ LcAsk c env g tt te vs ts I Mm xs M1 ∧
      (∀ s acc, I xs s acc → (Mm s).length = M1.length ∧ okL M1.length acc ∧ okM M1.length (Mm s) ∧ P (dy acc) (Mm s))) : WE c (tLc wi g tt te vs) env M P := fun as σ w Q s q =>
  lc_core I Mm hts s fun as1 σ1 w1 R s1 kk => h as1 σ1 w1 R s1 fun J as2 w2 ds M1 st2 mm2 wk p => kk J as2 w2 ds M1 st2 mm2 wk (by
    obtain ⟨xs, eds, s0, i0, e0, turn, fin⟩ := p
    refine ⟨xs, eds, s0, i0, e0, turn, fun s' acc hI => ⟨(fin s' acc hI).1, fun as3 w3 D st3 mm3 => ?_⟩⟩
    obtain ⟨f1, f2, f3, f4⟩ := fin s' acc hI
    have hlen : as.length ≤ as3.length := by
      have h1 := mm3.len
      have h2 := mm2.len
      have h4 := step_len st2
      have h5 := s.me.len
      have h6 := s1.me.len
      simp only [List.length_append, List.length_cons, List.length_nil] at h1
      omega
    obtain ⟨F4, st4, mm4, r4⟩ := last_data st3 hlen mm3 (f1 ▸ f2) (f1 ▸ f3)
    exact q _ as3 ⟨F4, w3.H⟩ (dy acc) _ st4 mm4 r4 f4)
/-- the same, the list to change later -/
theorem we_lcC {S : Type} {wi : TI} {g : TG} {tt : TT} {te : TE} {vs ts : List Nat} (I : List β → S → List γ → Prop) (Mm : S → Mem) (hts : ∀ t ∈ ts, t ∈ vs)
    (h : WI c wi env M fun ds M1 => ∃ xs : List β, ds = xs.map dy ∧ ∃ s0, I [] s0 [] ∧ M1 = Mm s0 ∧ LcAsk c env g tt te vs ts I Mm xs M1 ∧
      (∀ s acc, I xs s acc → (Mm s).length = M1.length ∧ P (dy (MR.mk M1.length)) (Mm s ++ [cLst acc]))) : WE c (tLc wi g tt te vs) env M P := fun as σ w Q s q =>
  lc_core I Mm hts s fun as1 σ1 w1 R s1 kk => h as1 σ1 w1 R s1 fun J as2 w2 ds M1 st2 mm2 wk p => kk J as2 w2 ds M1 st2 mm2 wk (by
    obtain ⟨xs, eds, s0, i0, e0, turn, fin⟩ := p
    refine ⟨xs, eds, s0, i0, e0, turn, fun s' acc hI => ⟨(fin s' acc hI).1, fun as3 w3 D st3 mm3 => ?_⟩⟩
    obtain ⟨f1, f4⟩ := fin s' acc hI
    refine q _ (as3 ++ [D]) w3 (dy (MR.mk M1.length)) _ st3 mm3 ⟨D, ?_, rfl⟩ f4
    have h1 := mm3.len
    simp only [List.length_append, List.length_cons, List.length_nil] at h1
    have : M1.length = as3.length := by omega
    show (as3 ++ [D])[M1.length]? = some D
    rw [this]; simp)
/-! ### defs -/
abbrev ASp := List Dy → Mem → (Dy → Mem → Prop) → Prop
/-- the promise of a def of n arguments whose callers hand it k cells -/
def spOf (c : Cc) (n : Nat) (k : Nat) (S : ASp) : Sp := fun vs H Q _ => ∃ as F ds M P, as.length = k ∧ ds.length = n ∧ MemOk c as ⟨F, H⟩ M ∧ RepDs c F as vs ds ∧ S ds M P ∧
  ∀ v w' (x : Dy) M', Step as ⟨F, H⟩ as w' → MemOk c as w' M' → x.h c w'.F as v → P x M' → Q v w'.H
def okDs (k : Nat) : List Dy → Prop
  | [] => True
  | d :: ds => d.ok k ∧ okDs k ds
theorem RepDs.cut {F : Hp} {as : List Addr} {k : Nat} : ∀ {vs : List V} {ds : List Dy}, okDs k ds → RepDs c F as vs ds → RepDs c F (as.take k) vs ds
  | _, _, _, .nil => .nil
  | _, d :: _, h, .cons r t => .cons (d.cut h.1 r) (RepDs.cut h.2 t)
theorem we_call {n : Nat} {S : ASp} {E : XK} {t : TA} (h : WA c t env M fun ds M1 => ds.length = n ∧ k ≤ M1.length ∧ okDs k ds ∧ okM k (M1.take k) ∧ S ds (M1.take k) fun x M' => P x (M' ++ M1.drop k)) : WE c (tCall (spOf c n k S) [] E t) env M P := fun as σ w Q s q =>
  h as σ w _ s fun vs as1 w1 ds M1 st1 mm1 r1 p1 => by
    obtain ⟨hn, hk, ho, hm, hS⟩ := p1
    rw [List.append_nil]
    have hl := mm1.len
    have spl : as1.take k ++ as1.drop k = as1 := List.take_append_drop k as1
    have nd := mm1.nd
    rw [← spl, List.nodup_append] at nd
    refine ⟨as1.take k, w1.F, ds, M1.take k, _, by rw [List.length_take]; omega, hn, mm1.take k hm, RepDs.cut ho r1, hS, fun v w2 x M2 st2 mm2 r2 p2 => ?_⟩
    have hlk : M2.length = k := by rw [mm2.len, List.length_take]; omega
    have pre : as1.take k <+: as1 := List.take_prefix _ _
    have hd : ∀ a ∈ as1.drop k, w1.H a ≠ none ∧ a ∉ as1.take k ∧ w1.F a = none := fun a ha =>
      ⟨MemOk.isSome (F := w1.F) (H := w1.H) mm1 (List.mem_of_mem_drop ha), fun z => nd.2.2 a z a ha rfl, mm1.dis a (List.mem_of_mem_drop ha)⟩
    have mm3 : MemOk c as1 w2 (M2 ++ M1.drop k) := by
      refine ⟨mm1.nd, by rw [List.length_append, List.length_drop, hlk]; omega, mm2.ex, fun a ha => ?_, fun j d q' => ?_⟩
      · rw [← spl] at ha
        rcases List.mem_append.mp ha with z | z
        · exact mm2.dis a z
        · obtain ⟨h1, h2, h3⟩ := hd a z
          by_cases e : w2.F a = none
          · exact e
          · rcases st2.fr a h3 e with y | y
            · exact absurd y h1
            · exact absurd y h2
      · by_cases hj : j < M2.length
        · rw [List.getElem?_append_left hj] at q'
          obtain ⟨a, o, h1, h2, h3⟩ := mm2.at_ j d q'
          have h1' : as1[j]? = some a := by
            rw [List.getElem?_take] at h1; split at h1
            · exact h1
            · cases h1
          exact ⟨a, o, h1', h2, d.mono (Evl.Ex.refl _) pre h3⟩
        · rw [List.getElem?_append_right (by omega), List.getElem?_drop] at q'
          have e : k + (j - M2.length) = j := by omega
          rw [e] at q'
          obtain ⟨a, o, h1, h2, h3⟩ := mm1.at_ j d q'
          have hin : a ∈ as1.drop k := List.mem_of_getElem? (i := j - k) (by
            rw [List.getElem?_drop]
            have : k + (j - k) = j := by omega
            rw [this]; exact h1)
          exact ⟨a, o, h1, st2.keep a o h2 (hd a hin).2.1, d.mono st2.ex (List.prefix_refl _) h3⟩
    have st3 : Step as1 w1 as1 w2 := ⟨List.prefix_refl _, st2.ex, fun a h h' => (st2.fr a h h').imp id fun z => List.mem_of_mem_take z, fun a h h' => absurd h h', fun a o h h' => st2.keep a o h fun z => h' (List.mem_of_mem_take z), st2.dom⟩
    exact q v as1 w2 x _ (st1.trans st3) mm3 (x.mono (Evl.Ex.refl _) pre r2) p2
/-- the names at a def's entry -/
def envOf (N : Nat) (ds : List Dy) : Env' := ds.map some ++ List.replicate (N - ds.length) none
theorem slots_start {F : Hp} {as : List Addr} {N : List Str} {vs : List V} {ds : List Dy} (h : RepDs c F as vs ds) (hn : ds.length ≤ N.length) : SlotsOk c F as (L2.start N vs) (envOf N.length ds) := by
  have hl : vs.length = ds.length := Paired.length h
  have at_ : ∀ {vs : List V} {ds : List Dy}, RepDs c F as vs ds → ∀ (i : Nat) (d : Dy), ds[i]? = some d → ∃ v, vs[i]? = some v ∧ d.h c F as v := by
    intro vs ds h
    induction h with
    | nil => intro i d q; simp at q
    | cons r t ih =>
      intro i d q
      cases i with
      | zero =>
        simp at q; subst q
        exact ⟨_, rfl, r⟩
      | succ i =>
        obtain ⟨v, h1, h2⟩ := ih i d (by simpa using q)
        exact ⟨v, by simpa using h1, h2⟩
  refine ⟨by simp [L2.start, envOf, hl], fun i d q => ?_⟩
  unfold envOf at q
  by_cases hi : i < ds.length
  · rw [List.getElem?_append_left (by rw [List.length_map]; exact hi), List.getElem?_map] at q
    have q' : ds[i]? = some d := by
      cases e : ds[i]? with
      | none => rw [e] at q; cases q
      | some d' => rw [e] at q; cases q; rfl
    obtain ⟨v, h1, h2⟩ := at_ h i d q'
    refine ⟨v, ?_, h2⟩
    unfold L2.start
    rw [List.getElem?_append_left (by rw [List.length_map, hl]; exact hi), List.getElem?_map, h1] <;> rfl
  · rw [List.getElem?_append_right (by rw [List.length_map]; omega), List.getElem?_replicate] at q
    split at q <;> cases q
/-- a def's body keeps the promise -/
theorem body_ok {n : Nat} {S : ASp} {t : TS} {N : List Str} {vs : List V} {H : Hp} {Q : VK} {E : XK} (h : spOf c n k S vs H Q E) (hN : n ≤ N.length)
    (b : ∀ ds M P, ds.length = n → M.length = k → S ds M P → WS c k t (envOf N.length ds) M (fun _ _ => False) P) : t { nx := fun _ H' => Q .non H', rt := Q } (L2.start N vs) H := by
  obtain ⟨as, F, ds, M, P, hk, hn, mm, rd, hS, fin⟩ := h
  refine b ds M P hn (mm.len.trans hk) hS as _ ⟨F, H⟩ _ ⟨slots_start rd (by omega), mm⟩ (fun e m as' σ' w' st s' f => f.elim) fun v as' w' x M' st mm' r p => ?_
  have e : as'.take k = as := by
    obtain ⟨t, rfl⟩ := st.pre
    rw [← hk]; simp
  rw [e] at mm' r
  refine fin v w' x M' ⟨List.prefix_refl _, st.ex, st.fr, fun a h h' => absurd h h', st.keep, st.dom⟩ mm' r p
/-- one that hands back None at its end -/
theorem body_okN {n : Nat} {S : ASp} {t : TS} {N : List Str} {vs : List V} {H : Hp} {Q : VK} {E : XK} (h : spOf c n k S vs H Q E) (hN : n ≤ N.length)
    (b : ∀ ds M P, ds.length = n → M.length = k → S ds M P → WS c k t (envOf N.length ds) M (fun _ m => okM k (m.take k) ∧ P (dy ()) (m.take k)) P) : t { nx := fun _ H' => Q .non H', rt := Q } (L2.start N vs) H := by
  obtain ⟨as, F, ds, M, P, hk, hn, mm, rd, hS, fin⟩ := h
  have key : ∀ {as' : List Addr} {w' : Hw}, Step as ⟨F, H⟩ as' w' → as'.take k = as ∧ Step as ⟨F, H⟩ as w' := fun {as' w'} st => by
    obtain ⟨t, rfl⟩ := st.pre
    exact ⟨by rw [← hk]; simp, ⟨List.prefix_refl _, st.ex, st.fr, fun a h h' => absurd h h', st.keep, st.dom⟩⟩
  refine b ds M P hn (mm.len.trans hk) hS as _ ⟨F, H⟩ _ ⟨slots_start rd (by omega), mm⟩ (fun e m as' σ' w' st s' f => ?_) fun v as' w' x M' st mm' r p => ?_
  · obtain ⟨e, st'⟩ := key st
    have m2 := s'.me.take k f.1
    rw [e] at m2
    exact fin .non w' (dy ()) _ st' m2 rfl f.2
  · obtain ⟨e, st'⟩ := key st
    rw [e] at mm' r
    exact fin v w' x M' st' mm' r p
end
end Zq
end
section
set_option Elab.async false
set_option linter.all false
set_option maxRecDepth 100000
/-! enumerate of a tuple. -/
namespace Zr
open PySem PySem.Spec PyProof.Rows L2
/-- the tuple at a, each item in a new pair with its number -/
def ItE (K : PySem.W.Frag) (a : Addr) : It where
  go i H := ∃ (xs : List V) (x : V), SqT K H a xs ∧ xs[i]? = some x
  yld i H v H' := ∃ T x, v = .ref T ∧ H T = none ∧ H' = upd H T (.tup [.int (i : Nat), x]) ∧ ∀ xs, SqT K H a xs → xs[i]? = some x
  stop i H := ∃ xs : List V, SqT K H a xs ∧ i = xs.length
abbrev enumObj (it : Addr) : Obj := { cls := .type "enumerate", data := .fields #[.none, .bool false, .ref it, rawInt 0, .none, .none] }
set_option maxHeartbeats 1000000 in
theorem enum_new1 {v : Value} {o : Obj} {G : Heap → Prop} (B : Begins v o G) :
    Meets (Builtin.«enumerate.__new__» ⟨[.type "enumerate", v], []⟩)
      (fun _ R s => G s.heap ∧ R (.ok (.ret (.ref (s.heap.push o).objs.size))) { s with heap := (s.heap.push o).push (enumObj s.heap.objs.size) }) := by
  refine .of_wp fun P w A R s hh => ?_
  obtain ⟨h0, g0, d0, t0, os0⟩ := s
  obtain ⟨hG, hR⟩ := hh
  have z0 := sub_enumerate
  have it0 : ∀ {A' : Around} {E : Value → Shared → Prop} {Q : Value → Shared → Prop},
      Q (.ref h0.objs.size) ⟨h0.push o, g0, d0, t0, os0⟩ → wpAny (model P w) A' (pyIter v) Q E ⟨h0, g0, d0, t0, os0⟩ := by
    intro A' E Q hq
    exact B.iter P w A' E ⟨h0, g0, d0, t0, os0⟩ Q hG hq
  wp_walk using it0
  refine wpAny_stack_any (fun st => ?_)
  refine wpAny_pure ?_
  split
  · rename_i cl _ _ _ _ _
    cases (cl == Value.type "enumerate") <;>
      (wp_walk using it0; exact ⟨_, rfl, hR⟩)
  · wp_walk using it0
    exact ⟨_, rfl, hR⟩
theorem enum_call1 {P : Program} {w : World} {A : Around} {E : Value → Shared → Prop} {s : Shared} {v : Value} {o : Obj} {G : Heap → Prop} {Q : Value → Shared → Prop}
    (B : Begins v o G) (hG : G s.heap)
    (h : ∀ h2, IsEnum h2 (s.heap.objs.size + 1) s.heap.objs.size 0 .none → h2.get? s.heap.objs.size = some o →
      (∀ b u, s.heap.get? b = some u → h2.get? b = some u) → Q (.ref (s.heap.objs.size + 1)) { s with heap := h2 }) :
    wpAny (model P w) A (call (.type "enumerate") [v]) Q E s := by
  have zp : (s.heap.push o).objs.size = s.heap.objs.size + 1 := Heap.size_push ..
  refine callType_new F.called_enumerate (by decide) (F.typeCall_enumerate_1 v) (F.newCall_enumerate_1 v)
    (fun ob => F.args_object_init_2 ob v) F.entry_enumerate_new (enum_new1 B) ⟨hG, ?_⟩
  show Shared.TypeIs _ _ _ ∧ _
  rw [zp]
  have e1 := Heap.get?_push_size (s.heap.push o)
    (o := enumObj s.heap.objs.size) rfl
  rw [zp] at e1
  exact ⟨⟨_, e1, rfl⟩, h _ e1 (Heap.get?_push_of_some _ (Heap.get?_push_size _ B.free)) fun b u q =>
    Heap.get?_push_of_some _ (Heap.get?_push_of_some _ q)⟩
/-- the turns -/
theorem turn_enumT {P : Program} {w : World} {K : PySem.W.Frag} {elts : List Expr} {kk : Nat} {tpos : Pos} (a e it : Addr) :
    Turn P w K (.Tuple elts kk tpos) (ItE K a) [e, it] e
      (fun i h => (∃ old, IsEnum h e it ((i : Nat) : Int) old) ∧ h.IsTupleIter it a i ∧ e ≠ it ∧ a ≠ it ∧ a ≠ e) := by
  constructor
  case mem => exact List.mem_cons_self
  case obj =>
    rintro i h ⟨⟨old, he⟩, ⟨o, ho, hc, hd⟩, _⟩ b hb
    simp only [List.mem_cons, List.not_mem_nil, or_false] at hb
    rcases hb with rfl | rfl
    · exact ⟨_, he, fun v q => nomatch q⟩
    · exact ⟨o, ho, fun v q => by rw [hd] at q; cases q⟩
  case keep =>
    rintro i h h2 ⟨⟨old, he⟩, hi, hne⟩ k
    exact ⟨⟨old, k e (by simp) _ he⟩, hi.at fun o q => k it (by simp) o q, hne⟩
  case item =>
    intro X hP hw hK hc i pins s σ H E I hf st hg
    subst hP hw hK
    obtain ⟨⟨old, he⟩, hit, hne, hai, hae⟩ := st
    obtain ⟨xs, x, hq, hx⟩ := hg
    obtain ⟨its, rv, p, hz⟩ := I.tuple hq
    obtain ⟨u, hu, ru⟩ := rv.get hx
    have le : e < s.heap.objs.size := Heap.lt_size he
    have li : it < s.heap.objs.size := by obtain ⟨_, q, _⟩ := hit; exact Heap.lt_size q
    have hu2 : its.toArray[i]? = some u := by simpa using hu
    have hlt : i < its.toArray.size := (Array.getElem?_eq_some_iff.mp hu2).1
    have pt : s.heap.IsTuple a its.toArray := p
    refine wpAny_pyNext_enum_itemD (Draws.tuple (by simp [I.ok.hd hc]) it a hai its.toArray) he ⟨hit, pt⟩ hlt hne (by simp [hne, Ne.symm hae])
      fun y h2 tk hy ho hst hT hsz hk => ?_
    obtain ⟨hit2, _⟩ := hst
    have hy' : its.toArray[i]? = some y := hy
    have ey : u = y := Option.some.inj (hu2.symm.trans hy')
    subst ey
    refine ⟨_, rfl, wpAny_letOwnedTupleGo_enum (s := { s with heap := h2, toks := tk + 1 }) ho fun h3 he3 sb => ?_⟩
    have hT3 := (sb.2 _ (Nat.ne_of_gt le)).trans hT
    have hall : ∀ b ∈ [e, it], b < s.heap.objs.size := by
      intro b hb
      simp only [List.mem_cons, List.not_mem_nil, or_false] at hb
      rcases hb with rfl | rfl
      · exact le
      · exact li
    have new : ObjOk X.prog X.w (upd H s.heap.objs.size (.tup [.int (i : Nat), x])) h3 s.heap.objs.size (.tup [.int (i : Nat), x]) := by
      refine ⟨by show 2 ≤ sizeLine; decide, [.int i tk, u], ?_, _, hT3, rfl, _, rfl⟩
      exact .cons ⟨tk, rfl⟩ (.cons ru .nil)
    have hfree : H s.heap.objs.size = none := I.hok.fresh (Nat.le_refl _)
    have I3 : Inv X pins σ (upd H s.heap.objs.size (.tup [.int (i : Nat), x])) { s with heap := h3, toks := tk + 1 } := by
      refine I.turnedNew (ch := [e, it]) (fun b ob hb q => ?_) hf (Nat.le_refl _) new
      have n1 : b ≠ e := fun z => hb (by simp [z])
      have n2 : b ≠ it := fun z => hb (by simp [z])
      exact (sb.2 b n1).trans (hk b ob n1 n2 q)
    refine ⟨.ref s.heap.objs.size, _, I3, rfl, ⟨_, x, rfl, hfree, rfl, fun ys hy => ?_⟩, ⟨⟨u, ?_⟩, hit2.at fun o q => (sb.2 it (Ne.symm hne)).trans q, hne, hai, hae⟩, fun b hb => ?_⟩
    · rw [I.tuple_inj hy hq]; exact hx
    · have cast1 : ((i + 1 : Nat) : Int) = (i : Int) + 1 := by omega
      rw [cast1]; exact he3
    · rw [upd_ne (Nat.ne_of_lt (hall b hb))]
      exact (hf b hb).1
  case done =>
    intro X hP hw hK hc i pins s σ H E I hf st hg
    subst hP hw hK
    obtain ⟨⟨old, he⟩, hit, hne, hai, hae⟩ := st
    obtain ⟨xs, hq, hx⟩ := hg
    obtain ⟨its, rv, p, hz⟩ := I.tuple hq
    have pt : s.heap.IsTuple a its.toArray := p
    obtain ⟨f0, f1, f2, f3, f4, f5⟩ := hf it (by simp)
    have hl : i = its.toArray.size := by rw [hx, rv.length, List.size_toArray]
    subst hl
    refine wpAny_pyNext_enum_endD (Draws.tuple (by simp [I.ok.hd hc]) it a hai its.toArray) he ⟨hit, pt⟩ fun h2 eb => ⟨rfl, ?_⟩
    exact I.turned (t' := s.toks) (fun b o hb q => eb b o hb q) f0 f1 f3 f4 f5
  case self =>
    rintro A i s Q E ⟨⟨old, he⟩, _⟩ h
    exact wpAny_pyIter_enum he h
def iEnumT (K : PySem.W.Frag) (ta : TA) : TI := fun σ H R => ta σ H fun vs H1 => ∃ a xs, vs = [.ref a] ∧ SqT K H1 a xs ∧ R (ItE K a) H1
theorem pi_enumT {X : Cx} {e : Expr} {ta : TA} {p pos tpos : Pos} {elts : List Expr} {kk : Nat} (hg : Gl X "enumerate") (hm : X.mg "enumerate" = none) (ha : PA X [e] ta)
    (hs : starEach [e] X.env = [(false, eval e X.env)] := by rfl) : PI X (.Tuple elts kk tpos) (.Call (.Name "enumerate" p) [e] [] pos) (iEnumT X.K ta) := by
  constructor
  intro pins s σ H R I h
  refine Call_ (ld_blt I hg hm boot_enumerate (PyProof.Rows.callWith_type1 ?_ hs rfl))
  refine thn (ha.run pos pins s σ H _ I h) ?_
  rintro us s1 ⟨vs, H1, I1, r1, a, xs, rfl, hq, q⟩
  cases r1 with
  | cons r rr =>
    cases rr
    obtain rfl := (show _ = Value.ref a from r)
    obtain ⟨its, rv, p', hz⟩ := I1.tuple hq
    have pt : s1.heap.IsTuple a its.toArray := p'
    have la : a < s1.heap.objs.size := by obtain ⟨o, ho, _⟩ := pt; exact Heap.lt_size ho
    refine enum_call1 (begins_tuple a its.toArray) pt fun h2 he hit hk => wpAny_pyIter_enum he ?_
    have I2 : Inv X pins σ H1 { s1 with heap := h2 } := I1.kept (t' := s1.toks) hk
    refine ⟨s1.heap.objs.size + 1, [s1.heap.objs.size + 1, s1.heap.objs.size], _, _, H1, rfl, I2, turn_enumT a (s1.heap.objs.size + 1) s1.heap.objs.size,
      ⟨⟨.none, he⟩, ⟨_, hit, rfl, rfl⟩, Nat.succ_ne_self _, Nat.ne_of_lt la, Nat.ne_of_lt (Nat.lt_succ_of_lt la)⟩, fun b hb => ?_, q⟩
    have hle : s1.heap.objs.size ≤ b := by
      simp only [List.mem_cons, List.not_mem_nil, or_false] at hb
      rcases hb with rfl | rfl
      · exact Nat.le_succ _
      · exact Nat.le_refl _
    exact I1.fpOk hle (I1.hok.fresh hle)
end Zr
end
section
set_option Elab.async false
set_option linter.all false
set_option maxRecDepth 100000
/-! sorted(set(a list of ints)). -/
namespace Zr
open PySem PySem.Spec PyProof.Rows L2
abbrev setObj (b : Bool) : Obj := { cls := .type "set", dict := none, data := .set #[] 0 (.fresh 0 0 b) }
section
variable {P : Program} {w : World} {A : Around} {E : Value → Shared → Prop} {s : Shared}
abbrev ledOf (w : World) : Bool := !w.params.followText "set-order"
/-- what set(l) leaves -/
structure SetEnd (w : World) (h h2 : Heap) (S : Addr) (ns : List Int) (n : Nat) : Prop where
  set : SetR w h2 S (fun j => decide (j ∈ ns)) n
  few : n ≤ ns.length
  old : ∀ b o, h.get? b = some o → h2.get? b = some o
abbrev EndR (w : World) (s : Shared) (ns : List Int) : Value → Shared → Prop := fun r s2 => r = .none ∧ ∃ h2 tk n, s2 = { s with heap := h2, toks := tk } ∧ SetEnd w s.heap h2 s.heap.objs.size ns n
set_option maxHeartbeats 8000000 in
theorem set_of_ints {l : Addr} {its : Array Value} {ns : List Int} {Q : Value → Shared → Prop} (hh : A.handled = none) (hl : s.heap.IsList l its) (hi : IntsAre its.toList ns) (hb : ns.length + 1 < scanBound)
    (h : ∀ h2 tk n, SetEnd w s.heap h2 s.heap.objs.size ns n → Q (.ref s.heap.objs.size) { s with heap := h2, toks := tk }) :
    wpAny (model P w) A (call (.type "set") [.ref l]) Q E s := by
  have ft := F.called_set
  obtain ⟨c1, tl1, mro1⟩ := ft.mro
  have made1 := ft.made
  have sub1 := ft.sub
  have not1 := ft.notType
  have can1 := ft.canCreate
  have ck1 := F.typeCall_set_1 (.ref l)
  refine wpAny_call (codeAny_of_tree ?_)
  show wpAny _ _ (callAny (.type "set") _) _ _ _
  refine wpAny_pure ⟨Code.quiet_builtin _ (by decide +kernel), codeAny_builtin F.entry_type_call ?_⟩
  rw [Around.under_plain (weight_type_call_type "set" [.ref l] []) rfl]
  repeat (any_goals (first | assumption | wp_step))
  have mk : codeAny (model P w) A.in1 (.call (.builtin "set.__new__") ⟨[.type "set", .ref l], []⟩)
      (wants (fun v s1 => v = .ref s.heap.objs.size ∧ s1 = { s with heap := s.heap.push (setObj (ledOf w)) }) E) s := code_set_led1 (.ref l) ⟨rfl, rfl⟩
  refine codeAny_mono mk fun r1 s1 q1 => ?_
  rcases r1 with e1 | f1
  · exact q1
  cases f1 <;> try exact q1.elim
  rename_i v1
  obtain ⟨rfl, rfl⟩ := q1
  have got : (s.heap.push (setObj (ledOf w))).get? s.heap.objs.size = some (setObj (ledOf w)) := Heap.get?_push_size _ rfl
  have ty1 : Shared.TypeIs { s with heap := s.heap.push (setObj (ledOf w)) } (.ref s.heap.objs.size) "set" := ⟨_, got, rfl⟩
  have li1 := ft.init.lookup
  have bi1 := ft.init.bind (.ref s.heap.objs.size)
  repeat (any_goals (first | assumption | wp_step))
  refine codeAny_mono (codeAny_call_builtin (R := wants (EndR w s ns) E) ft.init.plain F.entry_set_init (check_set_init_1 ty1 ?_)) fun r2 s2 q2 => ?_
  · have z0 : its.size = ns.length := by
      have q := IntsAre.length hi
      rwa [Array.length_toList] at q
    obtain ⟨⟨k0, d0, x0, sl0⟩, ho0, hk0, m0, hx0⟩ := id hl
    simp only at hk0 hx0
    subst hk0 hx0
    have g0 := Heap.get?_push_of_some (setObj (ledOf w)) ho0
    have il : (s.heap.push (setObj (ledOf w))).IsList l its := ⟨_, g0, rfl, m0, rfl⟩
    have z1 := F.sub_list_set
    have z2 := F.sub_list_frozenset
    have z3 : (Value.type "list" == Value.type "dict") = false := by decide
    have l0 : l < s.heap.objs.size := Heap.lt_size ho0
    unfold Builtin.«set.__init__» noKeywords Builtin.Frozenset.updateFrom
    generalize hq : pyIter = itf
    wp_walk
    subst hq
    refine wpAny_pyIter_list il (wpAny_bind (wpAny_runValue ?_))
    have two : (s.heap.push (setObj (ledOf w))).objs.size = s.heap.objs.size + 1 := Heap.size_push ..
    have calm : A.in1.in1.in1.handled = none := by simp [hh]
    have apart : l ≠ (s.heap.push (setObj (ledOf w))).objs.size := by rw [two]; exact Nat.ne_of_lt (Nat.lt_succ_of_lt l0)
    have off : s.heap.objs.size ∉ [(s.heap.push (setObj (ledOf w))).objs.size, l] := by
      rw [two]; simp only [List.mem_cons, List.not_mem_nil, or_false, not_or]
      exact ⟨Nat.ne_of_lt (Nat.lt_succ_self _), Nat.ne_of_gt l0⟩
    have vals : ∀ (i : Nat) (v : Value), its[i]? = some v → ∃ k t, ns[i]? = some k ∧ v = .int k t := by
      intro i v hv
      have hi2 : i < ns.length := by rw [← z0]; exact (Array.getElem?_eq_some_iff.mp hv).1
      obtain ⟨t, e⟩ := PyProof.Rows.IntsAre.int_at hi i v (by rw [Array.getElem?_toList]; exact hv)
      exact ⟨ns[i], t, List.getElem?_eq_getElem hi2, by rw [e, List.getD_eq_getElem?_getD, List.getElem?_eq_getElem hi2] <;> rfl⟩
    have got2 := Heap.get?_push_of_some { cls := .type "list_iterator", data := .fields #[.ref l, .int 0 0] } got
    refine set_update_ints ((Walks.list calm _ l apart its).toS) s.heap.objs.size off ns z0 hb vals (its.size - 0) 0 _ (by omega) (Nat.zero_le _)
      ⟨⟨_, Heap.get?_push_size _ rfl, rfl, rfl⟩, il.push _⟩ ⟨0, Nat.le_refl 0, setR_new_at got2⟩ ?_
    rintro ⟨h2, g2, d2, t2, o2⟩ n2 mv hn2 hr2
    obtain rfl : g2 = s.gens := mv.gens
    obtain rfl : d2 = s.drawn := mv.drawn
    obtain rfl : o2 = s.os := mv.os
    rw [z0] at hn2
    show wpAny _ _ _ _ _ _
    refine wpAny_pure ?_
    show wpAny _ _ (ret Value.none) _ _ _
    refine wpAny_pure ⟨rfl, h2, t2, n2, rfl, hr2, hn2, fun b o e => ?_⟩
    have b1 : b < s.heap.objs.size := Heap.lt_size e
    refine mv.heap b o ?_ (Heap.get?_push_of_some _ (Heap.get?_push_of_some _ e))
    rw [two]; simp only [List.mem_cons, List.not_mem_nil, or_false, not_or]
    exact ⟨Nat.ne_of_lt b1, Nat.ne_of_lt (Nat.lt_succ_of_lt b1)⟩
  · rcases r2 with e2 | f2
    · exact q2
    cases f2 <;> try exact q2.elim
    rename_i v2
    obtain ⟨rfl, h2, tk, n, rfl, done⟩ := q2
    repeat (any_goals (first | assumption | wp_step))
    exact h h2 tk n done
end
section
variable {X : Cx}
/-- set(l), l a list of ints -/
def rSetI (K : PySem.W.Frag) (w : World) : List V → Hp → VK → Prop := fun xs H Q => ∃ (l : Addr) (ns : List Int), xs = [.ref l] ∧ SqL K H l (ns.map V.int) ∧ ns.length + 1 < scanBound ∧
  ∀ p n, n ≤ ns.length → H p = none → Q (.ref p) (upd H p (SetO w p (fun j => decide (j ∈ ns)) n))
theorem cr_setI (hc : X.calm = true) : CallR X (.type "set") (rSetI X.K X.w) := by
  intro pins s σ H xs us Q I r h
  obtain ⟨l, ns, rfl, hs, hb, q⟩ := h
  obtain ⟨its, rv, hl, hz⟩ := I.list hs
  rw [Vals.ref1 r]
  refine set_of_ints (I.ok.hd hc) hl.isList rv.ints hb fun h2 tk n e => ?_
  exact ⟨.ref _, _, I.laid (t' := tk) e.old (Nat.le_refl _) (setO_new e.set), rfl, q _ n e.few (I.hok.fresh (Nat.le_refl _))⟩
end
end Zr
end
section
set_option Elab.async false
set_option linter.all false
set_option maxRecDepth 100000
/-! Pairs of an int and a tuple of ints: their order, sorted lists of them. -/
namespace Zr
open PySem PySem.Spec PyProof.Rows L2
open SrtO (Swo Srtd Stb lt2 Cmp SortableO)
abbrev Kd := Int × List Int
def klt (p q : Kd) : Bool := if p.1 = q.1 then HT.lexLt p.2 q.2 else decide (p.1 < q.1)
theorem lex_irr : ∀ l : List Int, HT.lexLt l l = false
  | [] => rfl
  | x :: l => by
    have h : HT.lexLt (x :: l) (x :: l) = (if x = x then HT.lexLt l l else decide (x < x)) := rfl
    rw [h, if_pos rfl, lex_irr l]
theorem lex_asym : ∀ l m : List Int, HT.lexLt l m = true → HT.lexLt m l = false
  | [], [], h => by cases h
  | [], _ :: _, _ => rfl
  | _ :: _, [], h => by cases h
  | x :: l, y :: m, h => by
    have e1 : HT.lexLt (x :: l) (y :: m) = (if x = y then HT.lexLt l m else decide (x < y)) := rfl
    have e2 : HT.lexLt (y :: m) (x :: l) = (if y = x then HT.lexLt m l else decide (y < x)) := rfl
    rw [e1] at h
    rw [e2]
    by_cases q : x = y
    · rw [if_pos q] at h
      rw [if_pos q.symm]
      exact lex_asym l m h
    · rw [if_neg q] at h
      rw [if_neg (fun z => q z.symm)]
      exact decide_eq_false (by have := of_decide_eq_true h; omega)
/-- not less, and not the other way: the same -/
theorem lex_eq : ∀ l m : List Int, HT.lexLt l m = false → HT.lexLt m l = false → l = m
  | [], [], _, _ => rfl
  | [], _ :: _, h, _ => by cases h
  | _ :: _, [], _, h => by cases h
  | x :: l, y :: m, h, h' => by
    have e1 : HT.lexLt (x :: l) (y :: m) = (if x = y then HT.lexLt l m else decide (x < y)) := rfl
    have e2 : HT.lexLt (y :: m) (x :: l) = (if y = x then HT.lexLt m l else decide (y < x)) := rfl
    rw [e1] at h
    rw [e2] at h'
    by_cases q : x = y
    · rw [if_pos q] at h
      rw [if_pos q.symm] at h'
      rw [q, lex_eq l m h h']
    · rw [if_neg q] at h
      rw [if_neg (fun z => q z.symm)] at h'
      have a := of_decide_eq_false h
      have b := of_decide_eq_false h'
      omega
theorem lex_trans : ∀ l m n : List Int, HT.lexLt l m = true → HT.lexLt m n = true → HT.lexLt l n = true
  | [], _, [], _, h => by
    rename_i m _
    cases m <;> cases h
  | [], _, _ :: _, _, _ => rfl
  | _ :: _, [], _, h, _ => by cases h
  | _ :: _, _ :: _, [], _, h => by cases h
  | x :: l, y :: m, z :: n, h, h' => by
    have e1 : HT.lexLt (x :: l) (y :: m) = (if x = y then HT.lexLt l m else decide (x < y)) := rfl
    have e2 : HT.lexLt (y :: m) (z :: n) = (if y = z then HT.lexLt m n else decide (y < z)) := rfl
    have e3 : HT.lexLt (x :: l) (z :: n) = (if x = z then HT.lexLt l n else decide (x < z)) := rfl
    rw [e1] at h
    rw [e2] at h'
    rw [e3]
    by_cases q : x = y
    · rw [if_pos q] at h
      by_cases r : y = z
      · rw [if_pos r] at h'
        rw [if_pos (q.trans r)]
        exact lex_trans l m n h h'
      · rw [if_neg r] at h'
        rw [if_neg (fun t => r (q.symm.trans t))]
        exact decide_eq_true (by have := of_decide_eq_true h'; omega)
    · rw [if_neg q] at h
      have a := of_decide_eq_true h
      by_cases r : y = z
      · rw [if_neg (fun t => q (t.trans r.symm))]
        exact decide_eq_true (by omega)
      · rw [if_neg r] at h'
        have b := of_decide_eq_true h'
        rw [if_neg (by omega)]
        exact decide_eq_true (by omega)
theorem klt_irr (p : Kd) : klt p p = false := by unfold klt; rw [if_pos rfl]; exact lex_irr _
theorem klt_asym {p q : Kd} (h : klt p q = true) : klt q p = false := by
  unfold klt at h ⊢
  by_cases e : p.1 = q.1
  · rw [if_pos e] at h
    rw [if_pos e.symm]
    exact lex_asym _ _ h
  · rw [if_neg e] at h
    rw [if_neg (fun z => e z.symm)]
    exact decide_eq_false (by have := of_decide_eq_true h; omega)
theorem klt_eq {p q : Kd} (h : klt p q = false) (h' : klt q p = false) : p = q := by
  unfold klt at h h'
  by_cases e : p.1 = q.1
  · rw [if_pos e] at h
    rw [if_pos e.symm] at h'
    exact Prod.ext e (lex_eq _ _ h h')
  · rw [if_neg e] at h
    rw [if_neg (fun z => e z.symm)] at h'
    have a := of_decide_eq_false h
    have b := of_decide_eq_false h'
    omega
theorem klt_trans {p q r : Kd} (h : klt p q = true) (h' : klt q r = true) : klt p r = true := by
  unfold klt at h h' ⊢
  by_cases e : p.1 = q.1
  · rw [if_pos e] at h
    by_cases f : q.1 = r.1
    · rw [if_pos f] at h'
      rw [if_pos (e.trans f)]
      exact lex_trans _ _ _ h h'
    · rw [if_neg f] at h'
      rw [if_neg (fun t => f (e.symm.trans t))]
      exact decide_eq_true (by have := of_decide_eq_true h'; omega)
  · rw [if_neg e] at h
    have a := of_decide_eq_true h
    by_cases f : q.1 = r.1
    · rw [if_neg (fun t => e (t.trans f.symm))]
      exact decide_eq_true (by omega)
    · rw [if_neg f] at h'
      have b := of_decide_eq_true h'
      rw [if_neg (by omega)]
      exact decide_eq_true (by omega)
/-- the ways in which two kinds lie -/
theorem klt_tri (p q : Kd) : klt p q = true ∨ p = q ∨ klt q p = true := by
  cases h : klt p q with
  | true => exact .inl rfl
  | false =>
    cases h' : klt q p with
    | true => exact .inr (.inr rfl)
    | false => exact .inr (.inl (klt_eq h h'))
theorem swo_kd (k : Value → Kd) : Swo fun v u => klt (k v) (k u) := by
  refine ⟨fun x y h => klt_asym h, fun x y z h1 h2 => ?_⟩
  have h1 : klt (k y) (k x) = false := h1
  have h2 : klt (k z) (k y) = false := h2
  show klt (k z) (k x) = false
  cases h : klt (k z) (k x) with
  | false => rfl
  | true =>
    rcases klt_tri (k x) (k y) with a | a | a
    · rw [klt_trans h a] at h2; cases h2
    · rw [← a, h] at h2; cases h2
    · rw [a] at h1; cases h1
/-! ### as they stand in the heap -/
structure IsKd (h : Heap) (v : Value) (k : Kd) : Prop where
  at_ : ∃ a b t its, v = .ref a ∧ h.IsTuple a #[.int k.1 t, .ref b] ∧ h.IsTuple b its ∧ IntsAre its.toList k.2
theorem IsKd.keeps {h h2 : Heap} {v : Value} {k : Kd} (x : IsKd h v k) (kk : ∀ b o, h.get? b = some o → o.cls = .type "tuple" → h2.get? b = some o) : IsKd h2 v k := by
  obtain ⟨a, b, t, its, e, p1, p2, i⟩ := x.at_
  obtain ⟨o, h1, c1, r1⟩ := p1
  obtain ⟨o', h1', c1', r1'⟩ := p2
  exact ⟨a, b, t, its, e, ⟨o, kk _ _ h1 c1, c1, r1⟩, ⟨o', kk _ _ h1' c1', c1', r1'⟩, i⟩
section
variable {prog : Program} {w : World} {A : Around} {s : Shared}
theorem ints_eqAt {b b' : Addr} {its its' : Array Value} {r r' : List Int} (h1 : s.heap.IsTuple b its) (h2 : s.heap.IsTuple b' its') (i1 : IntsAre its.toList r) (i2 : IntsAre its'.toList r') (hu : A.units + 4 < cLine) :
    SeqAt.EqAt A s (.ref b) (.ref b') (decide (r = r')) := by
  have rd : ∀ {vs : List Value} {ns : List Int}, IntsAre vs ns → ∃ as, ReadsAll s.heap vs (ns.map PyData.int) as := by
    intro vs ns i
    induction i with
    | nil => exact ⟨_, .nil⟩
    | cons n t _ ih => obtain ⟨as, q⟩ := ih; exact ⟨_, .cons (.int n t) q⟩
  have lay : ∀ ns : List Int, PyData.canLayAll0 (ns.map PyData.int) = true := fun ns => by
    induction ns with
    | nil => simp [PyData.canLayAll0]
    | cons n ns ih => simp [PyData.canLayAll0, PyData.canLay0, ih]
  have dep : ∀ ns : List Int, PyData.depthAll (ns.map PyData.int) ≤ 1 := fun ns => by
    induction ns with
    | nil => simp [PyData.depthAll]
    | cons n ns ih => simp only [List.map_cons, PyData.depthAll, PyData.depth]; omega
  have eqv : ∀ ns ms : List Int, PyData.eqvAll (ns.map PyData.int) (ms.map PyData.int) = decide (ns = ms) := fun ns => by
    induction ns with
    | nil => intro ms; cases ms <;> simp [PyData.eqvAll]
    | cons n ns ih =>
      intro ms
      cases ms with
      | nil => simp [PyData.eqvAll]
      | cons m ms =>
        simp only [List.map_cons, PyData.eqvAll, PyData.eqv, ih]
        by_cases e : n = m
        · subst e; simp
        · simp [e]
  obtain ⟨o, ho, hc, n, hd⟩ := h1
  obtain ⟨o', ho', hc', n', hd'⟩ := h2
  obtain ⟨as, q1⟩ := rd i1
  obtain ⟨bs, q2⟩ := rd i2
  have d1 := dep r
  have e0 := SeqAt.eqAt_reads (.tuple (r.map PyData.int)) (.tuple (r'.map PyData.int)) A s _ _ as bs (.tuple ho hc hd q1) (.tuple ho' hc' hd' q2) (by simp [PyData.canLay0, lay]) (by simp [PyData.canLay0, lay]) (by
    have : (PyData.tuple (r.map PyData.int)).depth ≤ 2 := by simp only [PyData.depth]; omega
    have := Nat.min_le_left (PyData.tuple (r.map PyData.int)).depth (PyData.tuple (r'.map PyData.int)).depth
    omega)
  have e1 : PyData.eqv (.tuple (r.map PyData.int)) (.tuple (r'.map PyData.int)) = decide (r = r') := by simp only [PyData.eqv, eqv]
  rw [e1] at e0
  exact e0
theorem kd_cmp {vs : List Value} {k : Value → Kd} (hu : A.units + 8 < cLine) (hp : ∀ v ∈ vs, IsKd s.heap v (k v)) : Cmp prog w A s (tuples' true) (fun p => p.1 ∈ vs) (lt2 fun v u => klt (k v) (k u)) := by
  intro p q hm hm2
  obtain ⟨a, b, t, its, e, ⟨o, ho, hc, n, hd⟩, p2, i⟩ := (hp _ hm).at_
  obtain ⟨a', b', t', its', e', ⟨o', ho', hc', n', hd'⟩, p2', i'⟩ := (hp _ hm2).at_
  show wpAny (model prog w) A (keyLt' (tuples' true) p.1 q.1) (fun r s' => s' = s ∧ r = klt (k p.1) (k q.1)) (fun _ _ => False) s
  unfold klt
  generalize k p.1 = x at *
  generalize k q.1 = y at *
  rw [e, e']
  refine PySem.W.kat_lt ho hd ho' hd' ?_
  show PySem.W.KatLex prog w A true (decide (2 < 2)) _ [(.int x.1 t, .int y.1 t'), (.ref b, .ref b')] 0 s
  refine PySem.W.kat_cons (SeqAt.EqAt.int_int _ t _ t' prog w _ _ ?_)
  refine PySem.W.kat_go (fun e1 => ?_) (fun e1 => ?_)
  · have e1 : x.1 = y.1 := by simpa using e1
    refine PySem.W.kat_yes (PySem.W.kat_cons (ints_eqAt p2 p2' i i' (by omega) prog w _ _ ?_))
    refine PySem.W.kat_go (fun e2 => ?_) (fun e2 => ?_)
    · have e2 := of_decide_eq_true e2
      refine PySem.W.kat_yes (PySem.W.kat_nil ⟨rfl, ?_⟩)
      rw [if_pos e1, e2, lex_irr]
      rfl
    · refine PySem.W.kat_no ?_
      show wpAny _ _ (oneLt' false _ _) _ _ _
      refine PySem.W.kat_one _ _ (HT.lt_tupInts p2 p2' i i' (by omega) ?_)
      exact (show s = s ∧ HT.lexLt x.2 y.2 = _ from ⟨rfl, by rw [if_pos e1]⟩)
  · have e1 : ¬ x.1 = y.1 := by simpa using e1
    refine PySem.W.kat_no (oneLt_int ⟨rfl, ?_⟩)
    rw [if_neg e1]
theorem kd_firsts {h : Heap} : ∀ {vs : List Value}, (∀ v ∈ vs, ∃ k, IsKd h v k) → ∃ fs : List Value, PySem.W.KatTups h vs fs ∧ fs.length = vs.length ∧ ∀ f ∈ fs, ∃ x t, f = Value.int x t
  | [], _ => ⟨[], PySem.W.KatTups.nil, rfl, fun _ z => by cases z⟩
  | v :: vs, hp => by
    obtain ⟨fs, c1, c2, c3⟩ := kd_firsts (vs := vs) fun u hm => hp u (List.mem_cons_of_mem _ hm)
    obtain ⟨k, x⟩ := hp v (List.mem_cons_self ..)
    obtain ⟨a, b, t, its, rfl, ⟨o, ho, hc, n, hd⟩, _, _⟩ := x.at_
    refine ⟨.int k.1 t :: fs, PySem.W.KatTups.cons ho hc hd rfl c1, by rw [List.length_cons, List.length_cons, c2], fun f hm => ?_⟩
    rcases List.mem_cons.mp hm with rfl | hm
    · exact ⟨_, _, rfl⟩
    · exact c3 f hm
theorem kd_sortable {a : Addr} {vs : List Value} {k : Value → Kd} (hu : A.units + 8 < cLine) (h0 : 0 < vs.length) (hp : ∀ v ∈ vs, IsKd s.heap v (k v)) (ha : ∀ o, s.heap.get? a = some o → o.cls ≠ .type "tuple") : SortableO prog w A s a vs fun v u => klt (k v) (k u) := by
  intro h2 keep
  have hp2 : ∀ v ∈ vs, IsKd h2 v (k v) := fun v hm => (hp v hm).keeps fun b o e c => keep b o (fun z => by subst z; exact ha o e c) e
  obtain ⟨fs, c1, c2, c3⟩ := kd_firsts fun v hm => ⟨_, hp2 v hm⟩
  refine ⟨tuples' true, fun Q E hq => ?_, kd_cmp hu hp2⟩
  refine PySem.W.kat_kind (T := .type "int") c1 (by omega) (fun f hm => ?_) (by rfl) ?_
  · obtain ⟨x, t, rfl⟩ := c3 f hm
    exact PySem.W.Looks.now
  · have e : (Value.type "int" != Value.type "tuple") = true := by first | decide +kernel | rfl | decide
    rw [e]
    exact hq
end
/-! ### sorted(l), l a list of kinds -/
section
variable {X : Cx}
/-- what stands at a kind's value -/
def KdAt (K : PySem.W.Frag) (H : Hp) (v : V) (k : Kd) : Prop := ∃ a b, v = .ref a ∧ SqT K H a [.int k.1, .ref b] ∧ SqT K H b (k.2.map V.int)
theorem KdAt.is {pins : List (Addr × Obj)} {σ : L2.St} {H : Hp} {s : Shared} (I : Inv X pins σ H s) {v : V} {u : Value} {k : Kd} (h : KdAt X.K H v k) (r : RelV v u) : IsKd s.heap u k := by
  obtain ⟨a, b, rfl, h1, h2⟩ := h
  cases r
  obtain ⟨its, r1, p1, _⟩ := I.tuple h1
  obtain ⟨its2, r2, p2, _⟩ := I.tuple h2
  cases r1 with
  | cons q1 q2 =>
    cases q2 with
    | cons q3 q4 =>
      cases q4
      obtain ⟨t, rfl⟩ := q1
      cases (show _ = Value.ref b from q3)
      exact ⟨a, b, t, its2.toArray, rfl, p1, p2, by simpa using Vals.ints r2⟩
def rSortK (K : PySem.W.Frag) : List V → Hp → VK → Prop := fun vs H Q => ∃ (a : Addr) (xs : List V) (ks : List Kd) (R : V → Kd → Prop), vs = [.ref a] ∧ SqL K H a xs ∧ (∀ v k, R v k → KdAt K H v k) ∧ Paired R xs ks ∧
  ∀ (ys : List V) (zs : List Kd) (p : Addr), Paired R ys zs → zs.Perm ks → zs.Pairwise (fun x y => klt y x = false) → H p = none → Q (.ref p) (upd H p (.lst ys))
theorem paired_mem {α β : Type} {R : α → β → Prop} : ∀ {xs : List α} {ys : List β} {x : α}, Paired R xs ys → x ∈ xs → ∃ y, y ∈ ys ∧ R x y
  | _, _, _, .nil, h => by cases h
  | _, _, _, .cons r t, h => by
    rcases List.mem_cons.mp h with rfl | h
    · exact ⟨_, List.mem_cons_self, r⟩
    · obtain ⟨y, hy, q⟩ := paired_mem t h
      exact ⟨y, List.mem_cons_of_mem _ hy, q⟩
theorem ints_inj {vs : List Value} {ns : List Int} (h : IntsAre vs ns) : ∀ {ms : List Int}, IntsAre vs ms → ns = ms := by
  induction h with
  | nil => intro ms q; cases q; rfl
  | cons n t _ ih => intro ms q; cases q with
    | cons m u r => rw [ih r]
theorem IsKd.uniq {h : Heap} {v : Value} {k l : Kd} (x : IsKd h v k) (y : IsKd h v l) : k = l := by
  obtain ⟨a, b, t, its, rfl, ⟨o, ho, _, n, hd⟩, ⟨o2, ho2, _, n2, hd2⟩, i⟩ := x.at_
  obtain ⟨a', b', t', its', e, ⟨o', ho', _, n', hd'⟩, ⟨o2', ho2', _, n2', hd2'⟩, i'⟩ := y.at_
  cases e
  rw [ho] at ho'; cases ho'
  rw [hd] at hd'
  injection hd' with e1 e2
  have e3 := congrArg Array.toList e1
  simp only [List.cons.injEq, Value.int.injEq, Value.ref.injEq, and_true] at e3
  obtain ⟨⟨e4, _⟩, rfl⟩ := e3
  rw [ho2] at ho2'; cases ho2'
  rw [hd2] at hd2'
  injection hd2' with e5 _
  subst e5
  exact Prod.ext e4 (ints_inj i i')
open Classical in
theorem kd_fun {h : Heap} {vs : List Value} (hp : ∀ v ∈ vs, ∃ k, IsKd h v k) : ∃ k : Value → Kd, ∀ v ∈ vs, IsKd h v (k v) :=
  ⟨fun v => if z : ∃ k, IsKd h v k then z.choose else (0, []), fun v hv => by
    have z := hp v hv
    show IsKd h v (if z : ∃ k, IsKd h v k then z.choose else (0, []))
    rw [dif_pos z]
    exact z.choose_spec⟩
def toV : Value → V
  | .ref a => .ref a
  | _ => .non
theorem vals_memR {xs : List V} {us : List Value} (r : Vals xs us) {u : Value} (h : u ∈ us) : ∃ v, v ∈ xs ∧ RelV v u := by
  induction r with
  | nil => cases h
  | cons q t ih =>
    rcases List.mem_cons.mp h with rfl | h
    · exact ⟨_, List.mem_cons_self, q⟩
    · obtain ⟨v, hv, z⟩ := ih h
      exact ⟨v, List.mem_cons_of_mem _ hv, z⟩
theorem kd_toV {K : PySem.W.Frag} {H : Hp} {v : V} {k : Kd} {u : Value} (h : KdAt K H v k) (r : RelV v u) : toV u = v := by
  obtain ⟨a, b, rfl, _⟩ := h
  cases r; rfl
theorem cr_sortK (hu : X.A.units + 16 < cLine) : CallR X (.builtin "sorted") (rSortK X.K) := by
  intro pins s σ H vs us Q I r h
  obtain ⟨a, xs, ks, R, rfl, hs, hR, hk, q⟩ := h
  obtain ⟨its, rv, hl, hz⟩ := I.list hs
  rw [Vals.ref1 r]
  have good : ∀ u ∈ its, ∃ v kk, R v kk ∧ RelV v u ∧ KdAt X.K H v kk ∧ IsKd s.heap u kk := fun u hu => by
    obtain ⟨v, hv, rr⟩ := vals_memR rv hu
    obtain ⟨kk, _, hkk⟩ := paired_mem hk hv
    exact ⟨v, kk, hkk, rr, hR _ _ hkk, (hR _ _ hkk).is I rr⟩
  obtain ⟨k, hkf⟩ := kd_fun (h := s.heap) (vs := its) fun u hu => let ⟨_, kk, _, _, _, z⟩ := good u hu; ⟨kk, z⟩
  have kmap : its.map k = ks := by
    have go : ∀ {xs : List V} {its : List Value} {ks : List Kd}, Vals xs its → Paired R xs ks → (∀ v ∈ its, IsKd s.heap v (k v)) → its.map k = ks := by
      intro xs its ks rv
      induction rv generalizing ks with
      | nil => intro hk _; cases hk; rfl
      | cons q1 q2 ih =>
        intro hk hf
        cases hk with
        | cons c1 c2 =>
          rw [List.map_cons, ih c2 fun v hv => hf v (List.mem_cons_of_mem _ hv), IsKd.uniq (hf _ List.mem_cons_self) ((hR _ _ c1).is I q1)]
    exact go rv hk hkf
  refine SrtO.sorted_ord (swo_kd k) hl.isList (by rw [← rv.length]; exact hz) (fun h2 h₁ a' ha kk => ?_) fun out hs2 hb2 => ?_
  · refine kd_sortable (s := { s with heap := h₁ }) (A := X.A.in1.in1) (by show X.A.units + 1 + 1 + 8 < cLine; omega) (by omega) (fun v hm => (hkf v hm).keeps fun b o e _ => (kk b o e).2) fun o e => ?_
    have e' : some o = some (seqObj "list" its.toArray 0) := e.symm.trans ha
    cases e'
    intro c
    exact absurd (Value.type.inj c) (by decide)
  · have perm := hb2.perm
    have mem : ∀ u ∈ out, u ∈ its := fun u hu => perm.mem_iff.mp hu
    obtain ⟨ep, he'⟩ := PyProof.Rows.sortedAll_at s.heap its out.toArray
    have pr : ∀ l : List Value, (∀ u ∈ l, u ∈ its) → Paired R (l.map toV) (l.map k) ∧ Vals (l.map toV) l := by
      intro l
      induction l with
      | nil => intro _; exact ⟨.nil, .nil⟩
      | cons u l ih =>
        intro hm
        obtain ⟨i1, i2⟩ := ih fun u hu => hm u (List.mem_cons_of_mem _ hu)
        obtain ⟨v, kk, hRk, rr, hkk, z⟩ := good u (hm u List.mem_cons_self)
        have e1 := kd_toV hkk rr
        have e2 := IsKd.uniq (hkf u (hm u List.mem_cons_self)) z
        refine ⟨.cons (by rw [e1, e2]; exact hRk) i1, .cons (by rw [e1]; exact rr) i2⟩
    obtain ⟨p1, p2⟩ := pr out mem
    have hlen : (out.map toV).length ≤ sizeLine := by
      rw [List.length_map, perm.length_eq, ← rv.length]; exact hz
    refine ⟨.ref _, upd H (s.heap.objs.size + 1) (.lst (out.map toV)), I.laid (t' := s.toks) (fun _ _ => PyProof.Rows.sortedAll_old) (Nat.le_succ _) ⟨hlen, out, ep, p2, he'⟩, rfl, ?_⟩
    refine q (out.map toV) (out.map k) _ p1 ?_ ?_ (I.hok.fresh (Nat.le_succ _))
    · rw [← kmap]; exact perm.map k
    · rw [List.pairwise_map]
      exact hs2
end
end Zr
end
section
set_option Elab.async false
set_option linter.all false
set_option maxRecDepth 100000
namespace Zr
open PySem PySem.Spec PyProof.Rows L2
theorem lexAt_up {e r : Nat → Bool} {z : Bool} : ∀ (k i : Nat), Ob.lexAt e r z (i + 1) k = Ob.lexAt (fun j => e (j + 1)) (fun j => r (j + 1)) z i k
  | 0, _ => rfl
  | k + 1, i => by
    rw [Ob.lexAt_succ, Ob.lexAt_succ, lexAt_up k (i + 1)]
theorem lexAt_le : ∀ ns ms : List Int, Ob.lexAt (fun j => decide (ns.getD j 0 = ms.getD j 0)) (fun j => decide (ns.getD j 0 ≤ ms.getD j 0)) (decide (ns.length ≤ ms.length)) 0 (min ns.length ms.length) = !HT.lexLt ms ns
  | [], [] => rfl
  | [], m :: ms => by
    have : min ([] : List Int).length (m :: ms).length = 0 := by simp
    rw [this, Ob.lexAt_zero]
    rfl
  | n :: ns, [] => by
    have : min (n :: ns).length ([] : List Int).length = 0 := by simp
    rw [this, Ob.lexAt_zero]
    rfl
  | n :: ns, m :: ms => by
    have e0 : min (n :: ns).length (m :: ms).length = min ns.length ms.length + 1 := by
      simp only [List.length_cons]; omega
    rw [e0, Ob.lexAt_succ, lexAt_up]
    have ih := lexAt_le ns ms
    have e1 : HT.lexLt (m :: ms) (n :: ns) = (if m = n then HT.lexLt ms ns else decide (m < n)) := rfl
    rw [e1]
    by_cases h : n = m
    · subst h
      have q : (fun j => decide ((n :: ns).getD j 0 = (n :: ms).getD j 0)) 0 = true := by simp
      rw [if_pos q, if_pos rfl, ← ih]
      have s : decide ((n :: ns).length ≤ (n :: ms).length) = decide (ns.length ≤ ms.length) := by
        simp only [List.length_cons, Nat.add_le_add_iff_right]
      rw [s]
      rfl
    · have q : ¬ ((fun j => decide ((n :: ns).getD j 0 = (m :: ms).getD j 0)) 0 = true) := by simp [h]
      rw [if_neg q, if_neg (fun z => h z.symm)]
      show decide (n ≤ m) = !decide (m < n)
      by_cases g : n ≤ m
      · rw [decide_eq_true g, decide_eq_false (by omega)]; rfl
      · rw [decide_eq_false g, decide_eq_true (by omega)]; rfl
section
variable {A : Around} {s : Shared}
theorem le_tupInts {b b' : Addr} {its its' : Array Value} {r r' : List Int} (h1 : s.heap.IsTuple b its) (h2 : s.heap.IsTuple b' its') (i1 : IntsAre its.toList r) (i2 : IntsAre its'.toList r') (hu : A.units < cLine) :
    Ob.RcOp .LtE A s (.ref b) (.ref b') (!HT.lexLt r' r) := by
  have s1 : its.size = r.length := by rw [← Array.length_toList]; exact i1.length
  have s2 : its'.size = r'.length := by rw [← Array.length_toList]; exact i2.length
  have g1 : ∀ j (h : j < its.size), ∃ t, its[j] = .int (r.getD j 0) t := fun j h => PyProof.Rows.IntsAre.int_at i1 _ _ (by rw [Array.getElem?_toList]; exact Array.getElem?_eq_getElem h)
  have g2 : ∀ j (h : j < its'.size), ∃ t, its'[j] = .int (r'.getD j 0) t := fun j h => PyProof.Rows.IntsAre.int_at i2 _ _ (by rw [Array.getElem?_toList]; exact Array.getElem?_eq_getElem h)
  have R := Ob.RcOp.tuples_le (A := A) (s := s) (e := fun j => decide (r.getD j 0 = r'.getD j 0)) (r := fun j => decide (r.getD j 0 ≤ r'.getD j 0)) h1 h2 hu (fun j k1 k2 => by
    obtain ⟨t, e1⟩ := g1 j k1
    obtain ⟨t', e2⟩ := g2 j k2
    rw [e1, e2]
    have z : (r.getD j 0 == r'.getD j 0) = decide (r.getD j 0 = r'.getD j 0) := by
      by_cases q : r.getD j 0 = r'.getD j 0
      · rw [decide_eq_true q]; exact beq_iff_eq.mpr q
      · rw [decide_eq_false q]; exact beq_eq_false_iff_ne.mpr q
    show SeqAt.EqAt _ _ _ _ (decide (r.getD j 0 = r'.getD j 0))
    rw [← z]
    exact SeqAt.EqAt.int_int _ _ _ _) (fun j k1 k2 _ => by
    obtain ⟨t, e1⟩ := g1 j k1
    obtain ⟨t', e2⟩ := g2 j k2
    rw [e1, e2]
    exact Ob.RcOp.le_int _ _ _ _)
  rw [s1, s2, lexAt_le] at R
  exact R
end
section
variable {X : Cx}
/-- x <= y, kinds -/
def rLeK (K : PySem.W.Frag) : R2 := fun x y H Q => ∃ k l, KdAt K H x k ∧ KdAt K H y l ∧ Q (.bl (!klt l k)) H
theorem op_leK (hu : X.A.units + 8 < cLine) : OpR X (compareOp .LtE) (rLeK X.K) := by
  intro pins s σ H x y v u Q I rx ry h
  obtain ⟨k, l, hk, hl, q⟩ := h
  obtain ⟨a, b, t, its, rfl, p1, p2, i1⟩ := (hk.is I rx).at_
  obtain ⟨a', b', t', its', rfl, p1', p2', i1'⟩ := (hl.is I ry).at_
  have R := Ob.RcOp.tuples_le (A := X.A) (s := s) (e := fun j => if j = 0 then decide (k.1 = l.1) else decide (k.2 = l.2)) (r := fun j => if j = 0 then decide (k.1 ≤ l.1) else !HT.lexLt l.2 k.2) p1 p1' (by omega) (fun j h1 h2 => by
    have hj : j < 2 := h1
    have : j = 0 ∨ j = 1 := by omega
    rcases this with rfl | rfl
    · show SeqAt.EqAt _ _ (.int k.1 t) (.int l.1 t') (decide (k.1 = l.1))
      have z : (k.1 == l.1) = decide (k.1 = l.1) := by
        by_cases q : k.1 = l.1
        · rw [decide_eq_true q]; exact beq_iff_eq.mpr q
        · rw [decide_eq_false q]; exact beq_eq_false_iff_ne.mpr q
      rw [← z]
      exact SeqAt.EqAt.int_int _ _ _ _
    · show SeqAt.EqAt _ _ (.ref b) (.ref b') (decide (k.2 = l.2))
      exact ints_eqAt p2 p2' i1 i1' (by show X.A.units + 1 + 4 < cLine; omega)) (fun j h1 h2 _ => by
    have hj : j < 2 := h1
    have : j = 0 ∨ j = 1 := by omega
    rcases this with rfl | rfl
    · exact Ob.RcOp.le_int _ _ _ _
    · exact le_tupInts p2 p2' i1 i1' (by show X.A.units + 1 < cLine; omega))
  have e : Ob.lexAt (fun j => if j = 0 then decide (k.1 = l.1) else decide (k.2 = l.2)) (fun j => if j = 0 then decide (k.1 ≤ l.1) else !HT.lexLt l.2 k.2) (decide (2 ≤ 2)) 0 2 = !klt l k := by
    rw [Ob.lexAt_succ, Ob.lexAt_succ, Ob.lexAt_zero]
    unfold klt
    by_cases h1 : k.1 = l.1
    · rw [if_pos (show (if (0 : Nat) = 0 then decide (k.1 = l.1) else decide (k.2 = l.2)) = true by simp [h1]), if_pos h1.symm]
      by_cases h2 : k.2 = l.2
      · rw [if_pos (show (if (0 + 1 : Nat) = 0 then decide (k.1 = l.1) else decide (k.2 = l.2)) = true by simp [h2]), h2, lex_irr]
        rfl
      · rw [if_neg (show ¬ ((if (0 + 1 : Nat) = 0 then decide (k.1 = l.1) else decide (k.2 = l.2)) = true) by simp [h2])]
        rfl
    · rw [if_neg (show ¬ ((if (0 : Nat) = 0 then decide (k.1 = l.1) else decide (k.2 = l.2)) = true) by simp [h1]), if_neg (show ¬ l.1 = k.1 from fun z => h1 z.symm)]
      show decide (k.1 ≤ l.1) = !decide (l.1 < k.1)
      by_cases g : k.1 ≤ l.1
      · rw [decide_eq_true g, decide_eq_false (by omega)]; rfl
      · rw [decide_eq_false g, decide_eq_true (by omega)]; rfl
  have R2 := R X.prog X.w X.xe (EP X pins σ Q)
  have e' : Ob.lexAt (fun j => if j = 0 then decide (k.1 = l.1) else decide (k.2 = l.2)) (fun j => if j = 0 then decide (k.1 ≤ l.1) else !HT.lexLt l.2 k.2) (decide (#[Value.int k.1 t, Value.ref b].size ≤ #[Value.int l.1 t', Value.ref b'].size)) 0 (min #[Value.int k.1 t, Value.ref b].size #[Value.int l.1 t', Value.ref b'].size) = !klt l k := e
  rw [e'] at R2
  exact R2 ⟨.bl _, H, I, rfl, q⟩
end
/-! ### sorted(d), d a dict with int keys, of any size -/
section
variable {X : Cx}
def rSortD : List V → Hp → VK → Prop := fun xs H Q => ∃ (a : Addr) (kvs : List (Key × V)) (ks : List Int), xs = [.ref a] ∧ Rd H a (.dK kvs) ∧ kvs.map (·.1) = ks.map Sum.inl ∧
  ∀ (ns : List Int) (p : Addr), ns.Perm ks → ns.Pairwise (· ≤ ·) → H p = none → Q (.ref p) (upd H p (.lst (ns.map V.int)))
theorem keys_ints {vs : List (Key × Value)} {ks : List Int} (he : vs.map (·.1) = ks.map Sum.inl) {acc : List Value} (hl : acc.length = ks.length)
    (ha : ∀ (j : Nat) (v : Value), acc[j]? = some v → ∃ k x, vs[j]? = some (k, x) ∧ keyIs k v = true) : IntsAre acc ks := by
  refine ints_each hl fun j v e => ?_
  obtain ⟨k, x, g1, g2⟩ := ha j v e
  have g3 : (ks.map Sum.inl)[j]? = some k := by rw [← he, List.getElem?_map, g1] <;> rfl
  rw [List.getElem?_map] at g3
  match q : ks[j]?, g3 with
  | some y, g3 =>
    have g4 : (Sum.inl y : Key) = k := Option.some.inj g3
    subst g4
    rcases keyIs_shape g2 with ⟨i, t, c1, c2⟩ | ⟨i, t, c1, c2⟩
    · cases c1; exact ⟨y, t, rfl, c2⟩
    · cases c1
theorem cr_sortD (hc : X.calm = true) : CallR X (.builtin "sorted") rSortD := by
  rintro pins s σ H xs us Q I r ⟨a, kvs, ks, rfl, hd, hks, q⟩
  rw [Vals.ref1 r]
  obtain ⟨z0, low, vs, rel, dd⟩ := dk_rd I.hok hd
  obtain ⟨ep, hat⟩ := dd.dictAt
  have he : vs.map (·.1) = ks.map Sum.inl := rel.keys.symm.trans hks
  have hvk : vs.length = ks.length := by simpa using congrArg List.length he
  have hkv : vs.length ≤ sizeLine := by
    have : kvs.length = ks.length := by simpa using congrArg List.length hks
    omega
  refine Calls.call_function_entry PyProof.Rows.kind_sorted PyProof.Rows.plain_sorted PyProof.Rows.entry_sorted (PyProof.Rows.args_sorted1 _) ?_
  unfold Builtin.«sorted»
  refine wpAny_bind (m := checkCount "sorted" 1 1 _) (wpAny_pure (wpAny_bind ?_))
  refine PySem.W.kdu_collect (A := X.A.in1) (PySem.W.kdl_dict (knd := mixKind X.prog X.w) (kvs := vs) (ep := ep) low) (I.ok.hd hc) hat hkv ?_
  intro h1 tk acc keep1 hacc
  have hlen : acc.toList.length = ks.length := by rw [Array.length_toList, hacc.1, hvk]
  have hint : IntsAre acc.toList ks := keys_ints he hlen fun j v e => hacc.2 j v (by rwa [← Array.getElem?_toList])
  have hsz : acc.toList.length ≤ sizeLine := by omega
  have J : Inv X pins σ H { s with heap := h1, toks := tk } := I.kept keep1
  refine wpAny_bind (wpAny_newList ?_ hsz)
  show wpAny _ _ _ _ _ { s with heap := h1.push (seqObj "list" acc.toList.toArray 0), toks := tk }
  have at1 : (h1.push (seqObj "list" acc.toList.toArray 0)).get? h1.objs.size = some (seqObj "list" acc.toList.toArray 0) := Heap.get?_push_size _ rfl
  refine wpAny_bind (wpAny_holding (wpAny_call_entry PyProof.Rows.slot_list_sort ⟨_, at1, rfl⟩ PyProof.Rows.entry_list_sort ?_ (PyProof.Rows.args_list_sort _)))
  refine SrtO.list_sort_ord SrtO.swo_int (s := { s with heap := h1.push (seqObj "list" acc.toList.toArray 0), toks := tk }) at1 hsz (fun h2 => SrtO.ints_sortable hint h2) fun out b1 b2 => ⟨_, rfl, ?_⟩
  obtain ⟨o1, o2, o3⟩ := SrtO.ints_out hint b1 b2
  obtain ⟨e', he'⟩ := PyProof.Rows.sortedHeap_at (vs := acc.toList) (out := out.toArray) at1
  have hol : ((out.map SrtO.iv).map V.int).length ≤ sizeLine := by rw [List.length_map, o2.length_eq]; omega
  refine wpAny_pure ⟨_, rfl, .ref h1.objs.size, upd H h1.objs.size (.lst ((out.map SrtO.iv).map V.int)), J.laid (t' := tk) (fun b u e => ?_) (Nat.le_refl _) ?_, rfl, q _ _ o2 o3 (J.hok.fresh (Nat.le_refl _))⟩
  · have hb : b < h1.objs.size := Heap.lt_size e
    rw [PyProof.Rows.sortedHeap_old (Nat.ne_of_lt hb) (by rw [size_push']; exact Nat.lt_succ_of_lt hb)]
    exact Heap.get?_push_of_some _ e
  · exact ⟨hol, out, e', vals_of_ints o1, he'⟩
end
end Zr
end
section
set_option Elab.async false
set_option linter.all false
set_option maxRecDepth 100000
/-! Operations on data. -/
namespace Zq
open PySem PySem.Spec PyProof.Rows L2
open Rep (rep)
section
variable {c : Cc} {env : Env'} {M : Mem} {α β γ : Type} [Rep α] [Rep β] [Rep γ] {ta tb te : TE} {P : Dy → Mem → Prop} {B : Bool → Mem → Prop} {k : Nat} {nx : Env' → Mem → Prop} {rt : Dy → Mem → Prop}
/-! ### ints, truth values -/
theorem rr_II {f : Int → Int → Int} {x y : Int} (p : P (dy (f x y)) M) : RR c (rI0 fun i j => .int (f i j)) (dy x) (dy y) M P :=
  rr_pure (fun as W v w Q m r1 r2 k => ⟨x, y, r1, r2, k _ rfl⟩) p
theorem rr_IB {f : Int → Int → Bool} {x y : Int} (p : P (dy (f x y)) M) : RR c (rI0 fun i j => .bl (f i j)) (dy x) (dy y) M P :=
  rr_pure (fun as W v w Q m r1 r2 k => ⟨x, y, r1, r2, k _ rfl⟩) p
theorem rr_IC {C : Int → Int → Prop} {f : Int → Int → Int} {x y : Int} (hc : C x y) (p : P (dy (f x y)) M) : RR c (rI C fun i j => .int (f i j)) (dy x) (dy y) M P :=
  rr_pure (fun as W v w Q m r1 r2 k => ⟨x, y, r1, r2, hc, k _ rfl⟩) p
theorem dec_int (x y : Int) : decide (V.int x = V.int y) = decide (x = y) := by
  by_cases h : x = y
  · subst h; simp
  · rw [decide_eq_false h, decide_eq_false (fun z => h (V.int.inj z))]
theorem dec_bl (x y : Bool) : decide (V.bl x = V.bl y) = decide (x = y) := by cases x <;> cases y <;> decide
theorem rr_eqI {x y : Int} (p : P (dy (decide (x = y))) M) : RR c rEq (dy x) (dy y) M P :=
  rr_pure (fun as W v w Q m r1 r2 k => by
    obtain rfl : v = .int x := r1
    obtain rfl : w = .int y := r2
    exact ⟨rfl, by rw [dec_int]; exact k _ rfl⟩) p
theorem rr_neI {x y : Int} (p : P (dy (!decide (x = y))) M) : RR c rNe (dy x) (dy y) M P :=
  rr_pure (fun as W v w Q m r1 r2 k => by
    obtain rfl : v = .int x := r1
    obtain rfl : w = .int y := r2
    exact ⟨rfl, by rw [dec_int]; exact k _ rfl⟩) p
theorem rr_eqB {x y : Bool} (p : P (dy (decide (x = y))) M) : RR c rEq (dy x) (dy y) M P :=
  rr_pure (fun as W v w Q m r1 r2 k => by
    obtain rfl : v = .bl x := r1
    obtain rfl : w = .bl y := r2
    exact ⟨rfl, by rw [dec_bl]; exact k _ rfl⟩) p
/-- x is None -/
def rIsN : R2 := fun x y H Q => y = .non ∧ Q (.bl (decide (x = .non))) H
def rNotN : R2 := fun x y H Q => y = .non ∧ Q (.bl (!decide (x = .non))) H
/-- what is not None -/
class Some1 (α : Type) [Rep α] : Prop where
  no : ∀ {c F as v} {x : α}, rep c F as v x → v ≠ .non
instance : Some1 Int := ⟨fun h z => by rw [show _ = V.int _ from h] at z; cases z⟩
instance : Some1 (List α) := ⟨fun h z => by obtain ⟨a, _, e, _⟩ := h; rw [e] at z; cases z⟩
instance : Some1 (Tp α) := ⟨fun h z => by obtain ⟨a, _, e, _⟩ := h; rw [e] at z; cases z⟩
instance : Some1 (α × β) := ⟨fun h z => by obtain ⟨a, _, _, e, _⟩ := h; rw [e] at z; cases z⟩
instance : Some1 (T3 α β γ) := ⟨fun h z => by obtain ⟨a, _, _, _, e, _⟩ := h; rw [e] at z; cases z⟩
theorem rr_isN [Some1 α] {x : α} (p : P (dy false) M) : RR c rIsN (dy x) (dy ()) M P :=
  rr_pure (fun as W v w Q m r1 r2 k => ⟨r2, by rw [decide_eq_false (Some1.no r1)]; exact k _ rfl⟩) p
theorem rr_isN0 (p : P (dy true) M) : RR c rIsN (dy ()) (dy ()) M P :=
  rr_pure (fun as W v w Q m r1 r2 k => ⟨r2, by rw [decide_eq_true (show v = .non from r1)]; exact k _ rfl⟩) p
theorem rr_notN [Some1 α] {x : α} (p : P (dy true) M) : RR c rNotN (dy x) (dy ()) M P :=
  rr_pure (fun as W v w Q m r1 r2 k => ⟨r2, by rw [decide_eq_false (Some1.no r1)]; exact k _ rfl⟩) p
theorem rr_notN0 (p : P (dy false) M) : RR c rNotN (dy ()) (dy ()) M P :=
  rr_pure (fun as W v w Q m r1 r2 k => ⟨r2, by rw [decide_eq_true (show v = .non from r1)]; exact k _ rfl⟩) p
/-- -x -/
theorem we_neg (h : WE c te env M (As Int fun x m => P (dy (-x)) m)) : WE c (tUn (rU fun i => .int (-i)) te) env M P := fun as σ H Q s k => h as σ H _ s fun v as' H' d M' st m r p => by
  obtain ⟨x, rfl, p⟩ := p
  exact ⟨x, r, k _ as' H' (dy (-x)) M' st m rfl p⟩
/-! ### data that are compared -/
class Dt (α : Type) [Rep α] where
  enc : α → PyData
  dp : ∀ {c F as v x}, rep c F as v x → Dp c.K F v (enc x)
  lay : ∀ x, (enc x).canLay0 = true
  dep : Nat
  small : dep ≤ 64
  depth : ∀ x, (enc x).depth ≤ dep
  inj : ∀ x y, PyData.eqv (enc x) (enc y) = true ↔ x = y
instance : Dt Int := ⟨.int, fun h => by rw [show _ = V.int _ from h]; exact .int _, fun x => by simp [PyData.canLay0], 1, by decide, fun x => by simp [PyData.depth], fun x y => by simp [PyData.eqv]⟩
instance : Dt Bool := ⟨.bool, fun h => by rw [show _ = V.bl _ from h]; exact .bl _, fun x => by simp [PyData.canLay0], 1, by decide, fun x => by simp [PyData.depth], fun x y => by simp [PyData.eqv]⟩
mutual
theorem Dp.mono {K : PySem.W.Frag} {F F' : Hp} (e : Ex F F') : ∀ {v : V} {d : PyData}, Dp K F v d → Dp K F' v d
  | _, _, .non => .non
  | _, _, .bl b => .bl b
  | _, _, .int i => .int i
  | _, _, .str x => .str x
  | _, _, .lst h t => .lst (sqL_mono e h) (DpAll.mono e t)
  | _, _, .tup h t => .tup (sqT_mono e h) (DpAll.mono e t)
theorem DpAll.mono {K : PySem.W.Frag} {F F' : Hp} (e : Ex F F') : ∀ {v : List V} {d : List PyData}, DpAll K F v d → DpAll K F' v d
  | _, _, .nil => .nil
  | _, _, .cons h t => .cons (Dp.mono e h) (DpAll.mono e t)
end
theorem dpAll [Dt α] {F : Hp} {as : List Addr} : ∀ {vs : List V} {xs : List α}, RepL c F as vs xs → DpAll c.K F vs (xs.map Dt.enc)
  | _, [], .nil => .nil
  | _, x :: xs, .cons r t => .cons (Dt.dp r) (dpAll t)
theorem layAll [Dt α] : ∀ xs : List α, PyData.canLayAll0 (xs.map Dt.enc) = true
  | [] => by simp [PyData.canLayAll0]
  | x :: xs => by simp [PyData.canLayAll0, Dt.lay x, layAll xs]
theorem depthAll [Dt α] : ∀ xs : List α, PyData.depthAll (xs.map Dt.enc) ≤ Dt.dep (α := α)
  | [] => by simp [PyData.depthAll]
  | x :: xs => by
    have h1 := Dt.depth x
    have h2 := depthAll xs
    simp only [List.map_cons, PyData.depthAll]; omega
theorem eqvAll_inj [Dt α] : ∀ xs ys : List α, PyData.eqvAll (xs.map Dt.enc) (ys.map Dt.enc) = true ↔ xs = ys
  | [], [] => by simp [PyData.eqvAll]
  | [], y :: ys => by simp [PyData.eqvAll]
  | x :: xs, [] => by simp [PyData.eqvAll]
  | x :: xs, y :: ys => by
    simp only [List.map_cons, PyData.eqvAll, Bool.and_eq_true, Dt.inj, eqvAll_inj xs ys, List.cons.injEq]
/-- how deep: for instances -/
class Lt64 (n : Nat) : Prop where
  lt : n < 64
instance : Lt64 0 := ⟨by decide⟩
instance : Lt64 1 := ⟨by decide⟩
instance : Lt64 2 := ⟨by decide⟩
instance : Lt64 3 := ⟨by decide⟩
instance : Lt64 4 := ⟨by decide⟩
instance : Lt64 5 := ⟨by decide⟩
instance : Lt64 6 := ⟨by decide⟩
instance : Lt64 7 := ⟨by decide⟩
instance instDtL [Dt α] [h : Lt64 (Dt.dep (α := α))] : Dt (List α) where
  enc xs := .list (xs.map Dt.enc)
  dp := by rintro c F as v x ⟨a, vs, rfl, h, r⟩; exact .lst h (dpAll r)
  lay x := by simp only [PyData.canLay0]; exact layAll x
  dep := Dt.dep (α := α) + 1
  small := h.lt
  depth x := by have := depthAll x; simp only [PyData.depth]; omega
  inj x y := by simp only [PyData.eqv]; exact eqvAll_inj x y
instance instDtT [Dt α] [h : Lt64 (Dt.dep (α := α))] : Dt (Tp α) where
  enc xs := .tuple (xs.l.map Dt.enc)
  dp := by rintro c F as v x ⟨a, vs, rfl, h, r⟩; exact .tup h (dpAll r)
  lay x := by simp only [PyData.canLay0]; exact layAll x.l
  dep := Dt.dep (α := α) + 1
  small := h.lt
  depth x := by have := depthAll x.l; simp only [PyData.depth]; omega
  inj x y := by
    obtain ⟨x⟩ := x
    obtain ⟨y⟩ := y
    simp only [PyData.eqv, Tp.mk.injEq]; exact eqvAll_inj x y
instance instDtP [Dt α] [Dt β] [h1 : Lt64 (Dt.dep (α := α))] [h2 : Lt64 (Dt.dep (α := β))] : Dt (α × β) where
  enc x := .tuple [Dt.enc x.1, Dt.enc x.2]
  dp := by rintro c F as v x ⟨a, v1, v2, rfl, h, r1, r2⟩; exact .tup h (.cons (Dt.dp r1) (.cons (Dt.dp r2) .nil))
  lay x := by simp [PyData.canLay0, PyData.canLayAll0, Dt.lay]
  dep := max (Dt.dep (α := α)) (Dt.dep (α := β)) + 1
  small := by have := h1.lt; have := h2.lt; omega
  depth x := by
    have := Dt.depth x.1
    have := Dt.depth x.2
    simp only [PyData.depth, PyData.depthAll]; omega
  inj x y := by
    obtain ⟨x1, x2⟩ := x
    obtain ⟨y1, y2⟩ := y
    simp [PyData.eqv, PyData.eqvAll, Dt.inj]
instance [h : Lt64 a] [h2 : Lt64 b] : Lt64 (max a b) := ⟨by have := h.lt; have := h2.lt; omega⟩
theorem Dt.shaped [Dt α] (x : α) : SeqAt.shaped (Dt.enc x) = true := by
  have h1 := Dt.depth x
  have h2 := Dt.small (α := α)
  unfold SeqAt.shaped
  rw [Bool.and_eq_true]
  exact ⟨Dt.lay x, decide_eq_true (by omega)⟩
theorem Dt.eq [Dt α] [DecidableEq α] (x y : α) : PyData.eqv (Dt.enc x) (Dt.enc y) = decide (x = y) := by
  by_cases h : x = y
  · rw [decide_eq_true h]; exact (Dt.inj x y).mpr h
  · rw [decide_eq_false h]
    cases e : PyData.eqv (Dt.enc x) (Dt.enc y) with
    | false => rfl
    | true => exact absurd ((Dt.inj x y).mp e) h
theorem rr_eqD [Dt α] [DecidableEq α] {x y : α} (p : P (dy (decide (x = y))) M) : RR c (rEqD c.K) (dy x) (dy y) M P :=
  rr_pure (fun as W v w Q m r1 r2 k => ⟨_, _, Dp.mono m.ex (Dt.dp r1), Dp.mono m.ex (Dt.dp r2), Dt.shaped x, Dt.shaped y, by rw [Dt.eq]; exact k _ rfl⟩) p
theorem rr_neD [Dt α] [DecidableEq α] {x y : α} (p : P (dy (!decide (x = y))) M) : RR c (rNeD c.K) (dy x) (dy y) M P :=
  rr_pure (fun as W v w Q m r1 r2 k => ⟨_, _, Dp.mono m.ex (Dt.dp r1), Dp.mono m.ex (Dt.dp r2), Dt.shaped x, Dt.shaped y, by rw [Dt.eq]; exact k _ rfl⟩) p
/-! ### an item at a place -/
theorem atI_of {δ : Type} {xs : List δ} {i : Int} {y : δ} (h0 : 0 ≤ i) (h : xs[i.toNat]? = some y) : atI xs i = some y := by
  have hl := (List.getElem?_eq_some_iff.mp h).1
  unfold atI ixN
  rw [if_pos h0, if_pos (by omega)]
  exact h
theorem rr_ixL {xs : List α} {i : Int} {y : α} (h0 : 0 ≤ i) (h : xs[i.toNat]? = some y) (p : P (dy y) M) : RR c (rIxL c.K) (dy xs) (dy i) M P :=
  rr_pure (fun as W v w Q m r1 r2 k => by
    obtain ⟨a, vs, rfl, hs, r⟩ := r1
    obtain ⟨u, hu, ru⟩ := r.get h
    exact ⟨a, vs, i, u, rfl, r2, sqL_mono m.ex hs, atI_of h0 hu, k _ ru⟩) p
theorem rr_ixT {xs : Tp α} {i : Int} {y : α} (h0 : 0 ≤ i) (h : xs.l[i.toNat]? = some y) (p : P (dy y) M) : RR c (rIxT c.K) (dy xs) (dy i) M P :=
  rr_pure (fun as W v w Q m r1 r2 k => by
    obtain ⟨a, vs, rfl, hs, r⟩ := r1
    obtain ⟨u, hu, ru⟩ := r.get h
    exact ⟨a, vs, i, u, rfl, r2, sqT_mono m.ex hs, atI_of h0 hu, k _ ru⟩) p
theorem rr_ixP0 {x : α × β} (p : P (dy x.1) M) : RR c (rIxT c.K) (dy x) (dy (0 : Int)) M P :=
  rr_pure (fun as W v w Q m r1 r2 k => by
    obtain ⟨a, v1, v2, rfl, hs, q1, q2⟩ := r1
    exact ⟨a, [v1, v2], 0, v1, rfl, r2, sqT_mono m.ex hs, rfl, k _ q1⟩) p
theorem rr_ixP1 {x : α × β} (p : P (dy x.2) M) : RR c (rIxT c.K) (dy x) (dy (1 : Int)) M P :=
  rr_pure (fun as W v w Q m r1 r2 k => by
    obtain ⟨a, v1, v2, rfl, hs, q1, q2⟩ := r1
    exact ⟨a, [v1, v2], 1, v2, rfl, r2, sqT_mono m.ex hs, rfl, k _ q2⟩) p
theorem rr_ix30 {x : T3 α β γ} (p : P (dy x.a) M) : RR c (rIxT c.K) (dy x) (dy (0 : Int)) M P :=
  rr_pure (fun as W v w Q m r1 r2 k => by
    obtain ⟨a, v1, v2, v3, rfl, hs, q1, q2, q3⟩ := r1
    exact ⟨a, [v1, v2, v3], 0, v1, rfl, r2, sqT_mono m.ex hs, rfl, k _ q1⟩) p
theorem rr_ix31 {x : T3 α β γ} (p : P (dy x.b) M) : RR c (rIxT c.K) (dy x) (dy (1 : Int)) M P :=
  rr_pure (fun as W v w Q m r1 r2 k => by
    obtain ⟨a, v1, v2, v3, rfl, hs, q1, q2, q3⟩ := r1
    exact ⟨a, [v1, v2, v3], 1, v2, rfl, r2, sqT_mono m.ex hs, rfl, k _ q2⟩) p
theorem rr_ix32 {x : T3 α β γ} (p : P (dy x.c) M) : RR c (rIxT c.K) (dy x) (dy (2 : Int)) M P :=
  rr_pure (fun as W v w Q m r1 r2 k => by
    obtain ⟨a, v1, v2, v3, rfl, hs, q1, q2, q3⟩ := r1
    exact ⟨a, [v1, v2, v3], 2, v3, rfl, r2, sqT_mono m.ex hs, rfl, k _ q3⟩) p
/-- of a list that changes -/
theorem MemOk.lst {as : List Addr} {W : Hw} {j : Nat} {xs : List α} (m : MemOk c as W M) (h : M[j]? = some (cLst xs)) : ∃ a vs, as[j]? = some a ∧ W.H a = some (.lst vs) ∧ RepL c W.F as vs xs := by
  obtain ⟨a, o, h1, h2, vs, rfl, hr⟩ := m.at_ j _ h
  exact ⟨a, vs, h1, h2, hr⟩
theorem rr_ixM {j : MR} {i : Int} {xs : List α} {y : α} (hm : M[j.k]? = some (cLst xs)) (h0 : 0 ≤ i) (h : xs[i.toNat]? = some y) (p : P (dy y) M) : RR c (rIxL c.K) (dy j) (dy i) M P :=
  rr_pure (fun as W v w Q m r1 r2 k => by
    obtain ⟨a, vs, h1, h2, r⟩ := m.lst hm
    obtain ⟨a', h1', rfl⟩ := r1
    rw [h1] at h1'; cases h1'
    obtain ⟨u, hu, ru⟩ := r.get h
    exact ⟨a, vs, i, u, rfl, r2, sql_of h2, atI_of h0 hu, k _ ru⟩) p
/-! ### a place set -/
theorem ixN_of {n : Nat} {i : Int} (h0 : 0 ≤ i) (h : i < n) : ixN n i = some i.toNat := by
  unfold ixN
  rw [if_pos h0, if_pos h]
theorem wg_setM {to ti : TE} {x : α} (h : WE c to env M (As MR fun j m1 => WE c ti env m1 (As Int fun i m2 => ∃ xs : List α, m2[j.k]? = some (cLst xs) ∧ 0 ≤ i ∧ i < (xs.length : Int) ∧ nx env (m2.set j.k (cLst (xs.set i.toNat x)))))) : WG c [] (gSub to ti rSetL) (dy x) env M nx := fun as σ w v N s r q =>
  h as σ w _ s fun u1 as1 w1 d1 m1 st1 mm1 r1 p1 => by
    obtain ⟨j, rfl, p1⟩ := p1
    refine p1 as1 σ w1 _ (s.step st1 mm1) fun u2 as2 w2 d2 m2 st2 mm2 r2 p2 => ?_
    obtain ⟨i, rfl, xs, hm, h0, hi, p⟩ := p2
    obtain ⟨a, vs, ha, hv, hr⟩ := mm2.lst hm
    obtain ⟨a', ha', rfl⟩ := Rep.mono (x := j) st2.ex st2.pre r1
    rw [ha] at ha'; cases ha'
    refine ⟨a, vs, i, i.toNat, rfl, r2, hv, ixN_of h0 (by rw [hr.length]; exact hi), ?_⟩
    obtain ⟨F2, H2⟩ := w2
    obtain ⟨st3, mm3⟩ := MemOk.put (o := .lst (vs.set i.toNat v)) (d := cLst (xs.set i.toNat x)) mm2 ha ⟨_, rfl, RepL.set (Rep.mono (x := x) (st1.trans st2).ex (st1.trans st2).pre r) _ hr⟩
    exact q env _ as2 σ _ ((st1.trans st2).trans st3) ⟨s.sl.step ((st1.trans st2).trans st3), mm3⟩ (fun _ _ => rfl) p
/-! ### len, tuple, list -/
def rLen (K : PySem.W.Frag) : List V → Hp → VK → Prop := fun xs H Q => ∃ p ys, xs = [.ref p] ∧ (SqL K H p ys ∨ SqT K H p ys) ∧ Q (.int ys.length) H
theorem rc_lenL {xs : List α} (p : P (dy (xs.length : Int)) M) : RC c (rLen c.K) [dy xs] M P := rc_pure (fun as W vs Q m r k => by
  obtain ⟨v, rfl, a, ws, rfl, hs, q⟩ := r.one
  exact ⟨a, ws, rfl, .inl (sqL_mono m.ex hs), by rw [q.length]; exact k _ rfl⟩) p
theorem rc_lenT {xs : Tp α} (p : P (dy (xs.l.length : Int)) M) : RC c (rLen c.K) [dy xs] M P := rc_pure (fun as W vs Q m r k => by
  obtain ⟨v, rfl, a, ws, rfl, hs, q⟩ := r.one
  exact ⟨a, ws, rfl, .inr (sqT_mono m.ex hs), by rw [q.length]; exact k _ rfl⟩) p
theorem rc_lenP {x : α × β} (p : P (dy (2 : Int)) M) : RC c (rLen c.K) [dy x] M P := rc_pure (fun as W vs Q m r k => by
  obtain ⟨v, rfl, a, v1, v2, rfl, hs, q1, q2⟩ := r.one
  exact ⟨a, [v1, v2], rfl, .inr (sqT_mono m.ex hs), k _ rfl⟩) p
theorem rc_lenM {j : MR} {xs : List α} (hm : M[j.k]? = some (cLst xs)) (p : P (dy (xs.length : Int)) M) : RC c (rLen c.K) [dy j] M P := rc_pure (fun as W vs Q m r k => by
  obtain ⟨v, rfl, a', h1', rfl⟩ := r.one
  obtain ⟨a, ws, h1, h2, q⟩ := m.lst hm
  rw [h1] at h1'; cases h1'
  exact ⟨_, ws, rfl, .inl (sql_of h2), by rw [q.length]; exact k _ rfl⟩) p
def rTup (K : PySem.W.Frag) : List V → Hp → VK → Prop := fun xs H Q => ∃ p ys, xs = [.ref p] ∧ ((SqL K H p ys ∧ ∀ l, H l = none → Q (.ref l) (upd H l (.tup ys))) ∨ (SqT K H p ys ∧ Q (.ref p) H))
theorem rc_tupL {xs : List α} (p : P (dy (Tp.mk xs)) M) : RC c (rTup c.K) [dy xs] M P := fun as W vs Q m r k => by
  obtain ⟨v, rfl, a, ws, rfl, hs, q⟩ := r.one
  exact ⟨a, ws, rfl, .inl ⟨sqL_mono m.ex hs, new_obj (z := dy (Tp.mk xs)) m (fun p F' hp e => ⟨p, ws, rfl, sqt_of hp, RepL.mono e (List.prefix_refl _) q⟩) k p⟩⟩
theorem rc_tupM {j : MR} {xs : List α} (hm : M[j.k]? = some (cLst xs)) (p : P (dy (Tp.mk xs)) M) : RC c (rTup c.K) [dy j] M P := fun as W vs Q m r k => by
  obtain ⟨v, rfl, a', h1', rfl⟩ := r.one
  obtain ⟨a, ws, h1, h2, q⟩ := m.lst hm
  rw [h1] at h1'; cases h1'
  exact ⟨_, ws, rfl, .inl ⟨sql_of h2, new_obj (z := dy (Tp.mk xs)) m (fun p F' hp e => ⟨p, ws, rfl, sqt_of hp, RepL.mono e (List.prefix_refl _) q⟩) k p⟩⟩
def rLst (K : PySem.W.Frag) : List V → Hp → VK → Prop := fun xs H Q => ∃ p ys, xs = [.ref p] ∧ (SqL K H p ys ∨ SqT K H p ys) ∧ ∀ l, H l = none → Q (.ref l) (upd H l (.lst ys))
theorem rc_lstTC {xs : Tp α} (p : P (dy (MR.mk M.length)) (M ++ [cLst xs.l])) : RC c (rLst c.K) [dy xs] M P := fun as W vs Q m r k => by
  obtain ⟨v, rfl, a, ws, rfl, hs, q⟩ := r.one
  refine ⟨a, ws, rfl, .inr (sqT_mono m.ex hs), fun l hl => ?_⟩
  obtain ⟨st, m'⟩ := MemOk.newCell (o := .lst ws) (d := cLst xs.l) m hl ⟨ws, rfl, q⟩
  exact k _ _ _ (dy (MR.mk M.length)) _ st m' ⟨l, by show (as ++ [l])[M.length]? = some l; rw [m.len]; simp, rfl⟩ p
/-! ### int, abs, min -/
def rInt1 : List V → Hp → VK → Prop := fun xs H Q => (∃ i, xs = [.int i] ∧ Q (.int i) H) ∨ ∃ k, xs = [.bl k] ∧ Q (.int (if k then 1 else 0)) H
theorem rc_int {x : Int} (p : P (dy x) M) : RC c rInt1 [dy x] M P := rc_pure (fun as W vs Q m r k => by
  obtain ⟨v, rfl, q⟩ := r.one
  obtain rfl : v = .int x := q
  exact .inl ⟨x, rfl, k _ rfl⟩) p
def rAbs : List V → Hp → VK → Prop := fun xs H Q => ∃ i, xs = [.int i] ∧ Q (.int (if i < 0 then -i else i)) H
theorem rc_abs {x : Int} (p : P (dy (if x < 0 then -x else x)) M) : RC c rAbs [dy x] M P := rc_pure (fun as W vs Q m r k => by
  obtain ⟨v, rfl, q⟩ := r.one
  obtain rfl : v = .int x := q
  exact ⟨x, rfl, k _ rfl⟩) p
def rMin2 : List V → Hp → VK → Prop := fun xs H Q => ∃ i j, xs = [.int i, .int j] ∧ Q (.int (if j < i then j else i)) H
theorem rc_min2 {x y : Int} (p : P (dy (if y < x then y else x)) M) : RC c rMin2 [dy x, dy y] M P := rc_pure (fun as W vs Q m r k => by
  obtain ⟨v, w, rfl, q1, q2⟩ := r.two
  obtain rfl : v = .int x := q1
  obtain rfl : w = .int y := q2
  exact ⟨x, y, rfl, k _ rfl⟩) p
/-! ### all, any -/
theorem repB : ∀ {F : Hp} {as : List Addr} {vs : List V} {bs : List Bool}, RepL c F as vs bs → vs = bs.map V.bl
  | _, _, _, _, .nil => rfl
  | _, _, _, _, .cons r t => by rw [List.map_cons, repB t, show _ = V.bl _ from r]
theorem repI : ∀ {F : Hp} {as : List Addr} {vs : List V} {xs : List Int}, RepL c F as vs xs → vs = xs.map V.int
  | _, _, _, _, .nil => rfl
  | _, _, _, _, .cons r t => by rw [List.map_cons, repI t, show _ = V.int _ from r]
theorem Irep : ∀ {F : Hp} {as : List Addr} (xs : List Int), RepL c F as (xs.map V.int) xs
  | _, _, [] => .nil
  | _, _, x :: xs => .cons rfl (Irep xs)
theorem rc_all {bs : List Bool} (p : P (dy (bs.all id)) M) : RC c (rAll c.K) [dy bs] M P := rc_pure (fun as W vs Q m r k => by
  obtain ⟨v, rfl, a, ws, rfl, hs, q⟩ := r.one
  rw [repB q] at hs
  exact ⟨a, bs, rfl, sqL_mono m.ex hs, k _ rfl⟩) p
theorem rc_any {bs : List Bool} (p : P (dy (bs.any id)) M) : RC c (rAny c.K) [dy bs] M P := rc_pure (fun as W vs Q m r k => by
  obtain ⟨v, rfl, a, ws, rfl, hs, q⟩ := r.one
  rw [repB q] at hs
  exact ⟨a, bs, rfl, sqL_mono m.ex hs, k _ rfl⟩) p
/-! ### sorted -/
theorem rc_sortI {ns : List Int} (p : ∀ zs : List Int, zs.Perm ns → zs.Pairwise (· ≤ ·) → P (dy zs) M) : RC c (rSortedI c.K) [dy ns] M P := fun as W vs Q m r k => by
  obtain ⟨v, rfl, a, ws, rfl, hs, q⟩ := r.one
  rw [repI q] at hs
  exact ⟨a, ns, rfl, sqL_mono m.ex hs, fun zs p' h1 h2 hp => new_obj (z := dy zs) m (fun p F' hp e => ⟨p, _, rfl, sql_of hp, Irep zs⟩) k (p zs h1 h2) p' hp⟩
theorem rc_sortIM {j : MR} {ns : List Int} (hm : M[j.k]? = some (cLst ns)) (p : ∀ zs : List Int, zs.Perm ns → zs.Pairwise (· ≤ ·) → P (dy zs) M) : RC c (rSortedI c.K) [dy j] M P := fun as W vs Q m r k => by
  obtain ⟨v, rfl, a', h1', rfl⟩ := r.one
  obtain ⟨a, ws, h1, h2, q⟩ := m.lst hm
  rw [h1] at h1'; cases h1'
  rw [repI q] at h2
  exact ⟨_, ns, rfl, sql_of h2, fun zs p' h1 h2 hp => new_obj (z := dy zs) m (fun p F' hp e => ⟨p, _, rfl, sql_of hp, Irep zs⟩) k (p zs h1 h2) p' hp⟩
abbrev Kind := Int × Tp Int
def kd (k : Kind) : Zr.Kd := (k.1, k.2.l)
theorem rep_kd {F : Hp} {as : List Addr} {v : V} {k : Kind} (h : rep c F as v k) : Zr.KdAt c.K F v (kd k) := by
  obtain ⟨a, v1, v2, rfl, hs, r1, b, ws, rfl, hs2, q⟩ := h
  obtain rfl : v1 = .int k.1 := r1
  rw [repI q] at hs2
  exact ⟨a, b, rfl, hs, hs2⟩
theorem kd_rep {F : Hp} {as : List Addr} {v : V} {k : Zr.Kd} (h : Zr.KdAt c.K F v k) : rep c F as v ((k.1, Tp.mk k.2) : Kind) := by
  obtain ⟨a, b, rfl, h1, h2⟩ := h
  exact ⟨a, _, _, rfl, h1, rfl, b, _, rfl, h2, Irep _⟩
theorem KdAt.mono {F F' : Hp} {v : V} {k : Zr.Kd} (e : Ex F F') (h : Zr.KdAt c.K F v k) : Zr.KdAt c.K F' v k := by
  obtain ⟨a, b, rfl, h1, h2⟩ := h
  exact ⟨a, b, rfl, sqT_mono e h1, sqT_mono e h2⟩
theorem kds {F : Hp} {as : List Addr} : ∀ {vs : List V} {ks : List Kind}, RepL c F as vs ks → Paired (Zr.KdAt c.K F) vs (ks.map kd)
  | _, _, .nil => .nil
  | _, _, .cons r t => .cons (rep_kd r) (kds t)
def unkd (k : Zr.Kd) : Kind := (k.1, Tp.mk k.2)
theorem kd_unkd (k : Zr.Kd) : kd (unkd k) = k := rfl
theorem unkd_kd (k : Kind) : unkd (kd k) = k := rfl
theorem unkds (ks : List Kind) : (ks.map kd).map unkd = ks := by
  rw [List.map_map]
  exact List.map_id' ks
theorem kdsR {F : Hp} {as : List Addr} : ∀ {vs : List V} {ks : List Zr.Kd}, Paired (Zr.KdAt c.K F) vs ks → RepL c F as vs (ks.map unkd)
  | _, _, .nil => .nil
  | _, _, .cons r t => .cons (kd_rep r) (kdsR t)
/-- k before l -/
def kbef (k l : Kind) : Bool := Zr.klt (kd k) (kd l)
/-- a list of kinds, sorted: in order, the same ones -/
structure KSort (zs ks : List Kind) : Prop where
  perm : zs.Perm ks
  asc : zs.Pairwise fun x y => kbef y x = false
theorem ksort_of {zs : List Zr.Kd} {ks : List Kind} (h1 : zs.Perm (ks.map kd)) (h2 : zs.Pairwise (fun x y => Zr.klt y x = false)) : KSort (zs.map unkd) ks := by
  refine ⟨?_, ?_⟩
  · have := h1.map unkd
    rw [unkds] at this; exact this
  · rw [List.pairwise_map]; exact h2
theorem rc_sortK {ks : List Kind} (p : ∀ zs, KSort zs ks → P (dy zs) M) : RC c (Zr.rSortK c.K) [dy ks] M P := fun as W vs Q m r k => by
  obtain ⟨v, rfl, a, ws, rfl, hs, q⟩ := r.one
  exact ⟨a, ws, ks.map kd, Zr.KdAt c.K W.F, rfl, sqL_mono m.ex hs, fun v k h => KdAt.mono m.ex h, kds q, fun ys zs p' h1 h2 h3 hp =>
    new_obj (z := dy (zs.map unkd)) m (fun p F' hp e => ⟨p, _, rfl, sql_of hp, RepL.mono e (List.prefix_refl _) (kdsR h1)⟩) k (p _ (ksort_of h2 h3)) p' hp⟩
theorem rc_sortKM {j : MR} {ks : List Kind} (hm : M[j.k]? = some (cLst ks)) (p : ∀ zs, KSort zs ks → P (dy zs) M) : RC c (Zr.rSortK c.K) [dy j] M P := fun as W vs Q m r k => by
  obtain ⟨v, rfl, a', h1', rfl⟩ := r.one
  obtain ⟨a, ws, h1, h2, q⟩ := m.lst hm
  rw [h1] at h1'; cases h1'
  exact ⟨_, ws, ks.map kd, Zr.KdAt c.K W.F, rfl, sql_of h2, fun v k h => KdAt.mono m.ex h, kds q, fun ys zs p' h1 h2 h3 hp =>
    new_obj (z := dy (zs.map unkd)) m (fun p F' hp e => ⟨p, _, rfl, sql_of hp, RepL.mono e (List.prefix_refl _) (kdsR h1)⟩) k (p _ (ksort_of h2 h3)) p' hp⟩
theorem rr_leK {x y : Kind} (p : P (dy (!kbef y x)) M) : RR c (Zr.rLeK c.K) (dy x) (dy y) M P :=
  rr_pure (fun as W v w Q m r1 r2 k => ⟨kd x, kd y, KdAt.mono m.ex (rep_kd r1), KdAt.mono m.ex (rep_kd r2), k _ rfl⟩) p
end
end Zq
end
section
set_option Elab.async false
set_option linter.all false
set_option maxRecDepth 100000
/-! Dicts, sets, iterators, lists that grow, cuts. -/
namespace Zq
open PySem PySem.Spec PyProof.Rows L2
open Rep (rep)
section
variable {c : Cc} {env : Env'} {M : Mem} {Q : List Dy → Mem → Prop} {α β γ : Type} [Rep α] [Rep β] [Rep γ] {ta tb te : TE} {P : Dy → Mem → Prop} {B : Bool → Mem → Prop} {k : Nat} {nx : Env' → Mem → Prop} {rt : Dy → Mem → Prop}
/-! ### dicts with int keys, as lists of pairs in their order -/
def dget {β : Type} : List (Int × β) → Int → Option β
  | [], _ => none
  | p :: r, k => if p.1 = k then some p.2 else dget r k
def dput {β : Type} : List (Int × β) → Int → β → List (Int × β)
  | [], k, v => [(k, v)]
  | p :: r, k, v => if p.1 = k then (k, v) :: r else p :: dput r k v
theorem inl_eq {i j : Int} : ((Sum.inl i : Key) = Sum.inl j) ↔ i = j := ⟨Sum.inl.inj, fun h => by rw [h]⟩
theorem rk_get {F : Hp} {as : List Addr} (i : Int) : ∀ {ps : List (Key × V)} {kvs : List (Int × β)}, RepK c F as ps kvs →
    (dget kvs i = none ∧ valV ps (Sum.inl i) = none) ∨ ∃ y v, dget kvs i = some y ∧ valV ps (Sum.inl i) = some v ∧ rep c F as v y
  | _, [], .nil => .inl ⟨rfl, rfl⟩
  | p :: ps, q :: qs, .cons r t => by
    by_cases h : q.1 = i
    · refine .inr ⟨q.2, p.2, if_pos h, valV_pos (by rw [r.1, h]), r.2⟩
    · have e1 : dget (q :: qs) i = dget qs i := if_neg h
      have e2 : valV (p :: ps) (Sum.inl i : Key) = valV ps (Sum.inl i) := valV_neg (by rw [r.1]; exact fun z => h (inl_eq.mp z))
      rw [e1, e2]
      exact rk_get i t
theorem rk_any {F : Hp} {as : List Addr} (i : Int) : ∀ {ps : List (Key × V)} {kvs : List (Int × β)}, RepK c F as ps kvs → (ps.any fun kv => decide (kv.1 = (Sum.inl i : Key))) = kvs.any fun kv => decide (kv.1 = i)
  | _, [], .nil => rfl
  | p :: ps, q :: qs, .cons r t => by
    rw [List.any_cons, List.any_cons, rk_any i t, r.1]
    have : decide ((Sum.inl q.1 : Key) = Sum.inl i) = decide (q.1 = i) := by
      by_cases h : q.1 = i
      · rw [h]; simp
      · rw [decide_eq_false h, decide_eq_false (fun z => h (inl_eq.mp z))]
    rw [this]
theorem rk_len {F : Hp} {as : List Addr} {ps : List (Key × V)} {kvs : List (Int × β)} (h : RepK c F as ps kvs) : ps.length = kvs.length := Paired.length h
/-- no key twice -/
def Keys1 {β : Type} (kvs : List (Int × β)) : Prop := (kvs.map (·.1)).Nodup
theorem dput_new {β : Type} {k : Int} {v : β} : ∀ {kvs : List (Int × β)}, (kvs.any fun kv => decide (kv.1 = k)) = false → dput kvs k v = kvs ++ [(k, v)]
  | [], _ => rfl
  | p :: r, h => by
    rw [List.any_cons, Bool.or_eq_false_iff] at h
    have h1 : ¬ p.1 = k := of_decide_eq_false h.1
    show (if p.1 = k then _ else p :: dput r k v) = _
    rw [if_neg h1, dput_new h.2]
    rfl
theorem dput_old {β : Type} {k : Int} {v : β} : ∀ {kvs : List (Int × β)}, Keys1 kvs → (kvs.any fun kv => decide (kv.1 = k)) = true → dput kvs k v = kvs.map fun kv => if kv.1 = k then (kv.1, v) else kv
  | [], _, h => by cases h
  | p :: r, nd, h => by
    unfold Keys1 at nd
    rw [List.map_cons, List.nodup_cons] at nd
    by_cases h1 : p.1 = k
    · show (if p.1 = k then (k, v) :: r else _) = _
      rw [if_pos h1, List.map_cons, if_pos h1]
      have : (r.map fun kv => if kv.1 = k then (kv.1, v) else kv) = r := by
        have e : ∀ x ∈ r, (if x.1 = k then (x.1, v) else x) = x := fun x hx => by
          rw [if_neg]
          intro z
          exact nd.1 (by rw [h1, ← z]; exact List.mem_map_of_mem hx)
        conv => rhs; rw [← List.map_id r]
        exact List.map_congr_left e
      rw [this, h1]
    · rw [List.any_cons, decide_eq_false h1, Bool.false_or] at h
      show (if p.1 = k then _ else p :: dput r k v) = _
      rw [if_neg h1, dput_old nd.2 h, List.map_cons, if_neg h1]
theorem rk_map {F : Hp} {as : List Addr} {i : Int} {v : V} {y : β} (hv : rep c F as v y) : ∀ {ps : List (Key × V)} {kvs : List (Int × β)}, RepK c F as ps kvs →
    RepK c F as (ps.map fun kv => if kv.1 = (Sum.inl i : Key) then (kv.1, v) else kv) (kvs.map fun kv => if kv.1 = i then (kv.1, y) else kv)
  | _, [], .nil => .nil
  | p :: ps, q :: qs, .cons r t => by
    refine .cons ?_ (rk_map hv t)
    dsimp only
    by_cases h : q.1 = i
    · rw [if_pos h, if_pos (by rw [r.1, h])]
      exact ⟨r.1, hv⟩
    · rw [if_neg h, if_neg (by rw [r.1]; exact fun z => h (inl_eq.mp z))]
      exact r
theorem RepK.append {F : Hp} {as : List Addr} : ∀ {vs ws} {xs ys : List (Int × β)}, RepK c F as vs xs → RepK c F as ws ys → RepK c F as (vs ++ ws) (xs ++ ys)
  | _, _, [], _, .nil, s => s
  | _, _, _ :: _, _, .cons r t, s => .cons r (RepK.append t s)
theorem rk_put {F : Hp} {as : List Addr} {i : Int} {v : V} {y : β} {ps : List (Key × V)} {kvs : List (Int × β)} (nd : Keys1 kvs) (h : RepK c F as ps kvs) (hv : rep c F as v y) : RepK c F as (putK ps (Sum.inl i) v) (dput kvs i y) := by
  unfold putK
  rw [rk_any i h]
  cases e : kvs.any fun kv => decide (kv.1 = i) with
  | true =>
    rw [if_pos rfl, dput_old nd e]
    exact rk_map hv h
  | false =>
    rw [if_neg (by simp), dput_new e]
    exact RepK.append h (.cons ⟨rfl, hv⟩ .nil)
/-- k in d, d.. of a dict that changes, of one that does not -/
theorem we_dinM {ty td : TE} (h : WE c ty env M (As Int fun i m1 => WE c td env m1 (As MR fun j m2 => ∃ kvs : List (Int × β), m2[j.k]? = some (cDic kvs) ∧ P (dy (dget kvs i).isSome) m2))) : WE c (tDIn ty td) env M P := fun as σ w Q s q =>
  h as σ w _ s fun v as1 w1 d m1 st1 mm1 r1 p1 => by
    obtain ⟨i, rfl, p1⟩ := p1
    refine p1 as1 σ w1 _ (s.step st1 mm1) fun v2 as2 w2 d2 m2 st2 mm2 r2 p2 => ?_
    obtain ⟨j, rfl, kvs, hm, p⟩ := p2
    obtain ⟨a, o, ha, ho, ps, rfl, hr⟩ := mm2.at_ _ _ hm
    obtain ⟨a', ha', rfl⟩ := r2
    rw [ha] at ha'; cases ha'
    obtain rfl : v = .int i := r1
    refine ⟨_, _, rfl, DGet.k (k := Sum.inl i) ho, ?_⟩
    have e : (valV ps (Sum.inl i : Key)).isSome = (dget kvs i).isSome := by
      rcases rk_get i hr with ⟨h1, h2⟩ | ⟨y, v, h1, h2, _⟩
      · rw [h1, h2]; rfl
      · rw [h1, h2]; rfl
    rw [e]
    exact q _ as2 w2 (dy (dget kvs i).isSome) m2 (st1.trans st2) mm2 rfl p
theorem we_dnotinM {ty td : TE} (h : WE c ty env M (As Int fun i m1 => WE c td env m1 (As MR fun j m2 => ∃ kvs : List (Int × β), m2[j.k]? = some (cDic kvs) ∧ P (dy (!(dget kvs i).isSome)) m2))) : WE c (tDNotIn ty td) env M P := fun as σ w Q s q =>
  h as σ w _ s fun v as1 w1 d m1 st1 mm1 r1 p1 => by
    obtain ⟨i, rfl, p1⟩ := p1
    refine p1 as1 σ w1 _ (s.step st1 mm1) fun v2 as2 w2 d2 m2 st2 mm2 r2 p2 => ?_
    obtain ⟨j, rfl, kvs, hm, p⟩ := p2
    obtain ⟨a, o, ha, ho, ps, rfl, hr⟩ := mm2.at_ _ _ hm
    obtain ⟨a', ha', rfl⟩ := r2
    rw [ha] at ha'; cases ha'
    obtain rfl : v = .int i := r1
    refine ⟨_, _, rfl, DGet.k (k := Sum.inl i) ho, ?_⟩
    have e : (valV ps (Sum.inl i : Key)).isSome = (dget kvs i).isSome := by
      rcases rk_get i hr with ⟨h1, h2⟩ | ⟨y, v, h1, h2, _⟩
      · rw [h1, h2]; rfl
      · rw [h1, h2]; rfl
    rw [e]
    exact q _ as2 w2 (dy (!(dget kvs i).isSome)) m2 (st1.trans st2) mm2 rfl p
theorem we_dinF {ty td : TE} (h : WE c ty env M (As Int fun i m1 => WE c td env m1 (As (Dc β) fun d m2 => P (dy (dget d.kvs i).isSome) m2))) : WE c (tDIn ty td) env M P := fun as σ w Q s q =>
  h as σ w _ s fun v as1 w1 d m1 st1 mm1 r1 p1 => by
    obtain ⟨i, rfl, p1⟩ := p1
    refine p1 as1 σ w1 _ (s.step st1 mm1) fun v2 as2 w2 d2 m2 st2 mm2 r2 p2 => ?_
    obtain ⟨d, rfl, p⟩ := p2
    obtain ⟨a, ps, rfl, ho, hr⟩ := r2
    obtain rfl : v = .int i := r1
    refine ⟨_, _, rfl, DGet.k (k := Sum.inl i) (mm2.ex _ _ ho), ?_⟩
    have e : (valV ps (Sum.inl i : Key)).isSome = (dget d.kvs i).isSome := by
      rcases rk_get i hr with ⟨h1, h2⟩ | ⟨y, v, h1, h2, _⟩
      · rw [h1, h2]; rfl
      · rw [h1, h2]; rfl
    rw [e]
    exact q _ as2 w2 (dy (dget d.kvs i).isSome) m2 (st1.trans st2) mm2 rfl p
theorem we_dnotinF {ty td : TE} (h : WE c ty env M (As Int fun i m1 => WE c td env m1 (As (Dc β) fun d m2 => P (dy (!(dget d.kvs i).isSome)) m2))) : WE c (tDNotIn ty td) env M P := fun as σ w Q s q =>
  h as σ w _ s fun v as1 w1 d m1 st1 mm1 r1 p1 => by
    obtain ⟨i, rfl, p1⟩ := p1
    refine p1 as1 σ w1 _ (s.step st1 mm1) fun v2 as2 w2 d2 m2 st2 mm2 r2 p2 => ?_
    obtain ⟨d, rfl, p⟩ := p2
    obtain ⟨a, ps, rfl, ho, hr⟩ := r2
    obtain rfl : v = .int i := r1
    refine ⟨_, _, rfl, DGet.k (k := Sum.inl i) (mm2.ex _ _ ho), ?_⟩
    have e : (valV ps (Sum.inl i : Key)).isSome = (dget d.kvs i).isSome := by
      rcases rk_get i hr with ⟨h1, h2⟩ | ⟨y, v, h1, h2, _⟩
      · rw [h1, h2]; rfl
      · rw [h1, h2]; rfl
    rw [e]
    exact q _ as2 w2 (dy (!(dget d.kvs i).isSome)) m2 (st1.trans st2) mm2 rfl p
/-- d[i] = e -/
theorem ws_dput {td ty tv : TE} (h : WE c tv env M (As β fun y m0 => WE c td env m0 (As MR fun j m1 => WE c ty env m1 (As Int fun i m2 => ∃ kvs : List (Int × β), m2[j.k]? = some (cDic kvs) ∧ Keys1 kvs ∧ kvs.length < 100000 ∧ nx env (m2.set j.k (cDic (dput kvs i y))))))) : WS c k (sDPut td ty tv) env M nx rt := fun as σ w D s q1 q2 =>
  h as σ w _ s fun v as1 w1 d m1 st1 mm1 r1 p1 => by
    obtain ⟨y, rfl, p1⟩ := p1
    refine p1 as1 σ w1 _ (s.step st1 mm1) fun v2 as2 w2 d2 m2 st2 mm2 r2 p2 => ?_
    obtain ⟨j, rfl, p2⟩ := p2
    refine p2 as2 σ w2 _ (s.step (st1.trans st2) mm2) fun v3 as3 w3 d3 m3 st3 mm3 r3 p3 => ?_
    obtain ⟨i, rfl, kvs, hm, nd, hl, p⟩ := p3
    obtain ⟨a, o, ha, ho, ps, rfl, hr⟩ := mm3.at_ _ _ hm
    obtain ⟨a', ha', rfl⟩ := Rep.mono (x := j) st3.ex st3.pre r2
    rw [ha] at ha'; cases ha'
    obtain rfl : v3 = .int i := r3
    refine ⟨_, _, rfl, DPut.k (k := Sum.inl i) ho (Nat.lt_of_lt_of_le (by rw [rk_len hr]; exact hl) (by decide : 100000 ≤ sizeLine)), ?_⟩
    obtain ⟨F3, H3⟩ := w3
    obtain ⟨st4, mm4⟩ := MemOk.put (o := .dK (putK ps (Sum.inl i) v)) (d := cDic (dput kvs i y)) mm3 ha ⟨_, rfl, rk_put nd hr (Rep.mono (x := y) (st2.trans st3).ex (st2.trans st3).pre r1)⟩
    exact q1 env _ as3 σ _ (((st1.trans st2).trans st3).trans st4) ⟨s.sl.step (((st1.trans st2).trans st3).trans st4), mm4⟩ p
/-- {} -/
theorem we_dnew (p : P (dy (MR.mk M.length)) (M ++ [cDic ([] : List (Int × β))])) : WE c tDNewK env M P := fun as σ w Q s q => by
  intro l hl
  obtain ⟨st, m'⟩ := MemOk.newCell (o := .dK []) (d := cDic ([] : List (Int × β))) s.me hl ⟨[], rfl, .nil⟩
  exact q _ _ _ (dy (MR.mk M.length)) _ st m' ⟨l, by show (as ++ [l])[M.length]? = some l; rw [s.me.len]; simp, rfl⟩ p
/-- dict(a list of pairs) -/
def rDictP (K : PySem.W.Frag) : List V → Hp → VK → Prop := fun xs H Q => ∃ (a : Addr) (ps : List Addr) (kvs : List (Key × V)), xs = [.ref a] ∧ SqL K H a (ps.map V.ref) ∧ Paired (fun p kv => SqT K H p [kV kv.1, kv.2]) ps kvs ∧
    ∀ p, H p = none → Q (.ref p) (upd H p (.dK (mergeK [] kvs)))
def dmerge (xs : List (Int × β)) : List (Int × β) := xs.foldl (fun acc p => dput acc p.1 p.2) []
theorem keys1_put {kvs : List (Int × β)} (h : Keys1 kvs) (i : Int) (y : β) : Keys1 (dput kvs i y) := by
  unfold Keys1 at h ⊢
  have e : (dput kvs i y).map (·.1) = if (kvs.any fun kv => decide (kv.1 = i)) = true then kvs.map (·.1) else kvs.map (·.1) ++ [i] := by
    cases q : kvs.any fun kv => decide (kv.1 = i) with
    | true =>
      rw [if_pos rfl, dput_old h q, List.map_map]
      refine List.map_congr_left fun x _ => ?_
      show (if x.1 = i then (x.1, y) else x).1 = x.1
      split <;> rfl
    | false => rw [if_neg (by simp), dput_new q, List.map_append]; rfl
  rw [e]
  split
  · exact h
  · rename_i q
    rw [List.nodup_append]
    refine ⟨h, by simp, fun a ha b hb => ?_⟩
    have : b = i := by simpa using hb
    subst this
    intro z
    subst z
    apply q
    obtain ⟨x, hx, rfl⟩ := List.mem_map.mp ha
    exact List.any_eq_true.mpr ⟨x, hx, by simp⟩
theorem keys1_nil : Keys1 ([] : List (Int × β)) := List.nodup_nil
theorem rk_merge {F : Hp} {as : List Addr} : ∀ {ps : List (Key × V)} {xs : List (Int × β)} {qs : List (Key × V)} {ys : List (Int × β)}, RepK c F as ps xs → Keys1 ys → RepK c F as qs ys → RepK c F as (mergeK qs ps) (xs.foldl (fun acc p => dput acc p.1 p.2) ys)
  | _, [], _, _, .nil, _, h => h
  | p :: ps, q :: xs, qs, ys, .cons r t, nd, h => by
    show RepK c F as (mergeK (putK qs p.1 p.2) ps) (xs.foldl _ (dput ys q.1 q.2))
    rw [r.1]
    exact rk_merge t (keys1_put nd _ _) (rk_put nd h r.2)
theorem pairs_of {F H : Hp} (e : Ex F H) {as : List Addr} : ∀ {vs : List V} {xs : List (Int × β)}, RepL c F as vs xs → ∃ (ps : List Addr) (kvs : List (Key × V)), vs = ps.map V.ref ∧ Paired (fun p kv => SqT c.K H p [kV kv.1, kv.2]) ps kvs ∧ RepK c F as kvs xs
  | _, [], .nil => ⟨[], [], rfl, .nil, .nil⟩
  | v :: vs, x :: xs, .cons r t => by
    obtain ⟨ps, kvs, rfl, h1, h2⟩ := pairs_of e t
    obtain ⟨a, v1, v2, rfl, hs, q1, q2⟩ := r
    obtain rfl : v1 = .int x.1 := q1
    exact ⟨a :: ps, (Sum.inl x.1, v2) :: kvs, rfl, .cons (sqT_mono e hs) h1, .cons ⟨rfl, q2⟩ h2⟩
theorem rc_dictC {xs : List (Int × β)} (p : P (dy (MR.mk M.length)) (M ++ [cDic (dmerge xs)])) : RC c (rDictP c.K) [dy xs] M P := fun as W vs Q m r k => by
  obtain ⟨v, rfl, a, ws, rfl, hs, q⟩ := r.one
  obtain ⟨ps, kvs, rfl, h1, h2⟩ := pairs_of m.ex q
  refine ⟨a, ps, kvs, rfl, sqL_mono m.ex hs, h1, fun l hl => ?_⟩
  obtain ⟨st, m'⟩ := MemOk.newCell (o := .dK (mergeK [] kvs)) (d := cDic (dmerge xs)) m hl ⟨_, rfl, rk_merge h2 keys1_nil .nil⟩
  exact k _ _ _ (dy (MR.mk M.length)) _ st m' ⟨l, by show (as ++ [l])[M.length]? = some l; rw [m.len]; simp, rfl⟩ p
/-- a dict of this def's own, handed out -/
theorem ws_retD (h : WE c te env M (As MR fun x m => ∃ kvs : List (Int × β), k ≤ x.k ∧ m[x.k]? = some (cDic kvs) ∧ okK k kvs ∧ okM k (m.take k) ∧ rt (dy (Dc.mk kvs)) (m.take k))) : WS c k (tRet te) env M nx rt := fun as σ H D s q1 q2 =>
  h as σ H _ s fun v as1 H1 x m1 st1 mm1 r1 p1 => by
    obtain ⟨x, rfl, kvs, hk, hm, hok, hok2, p⟩ := p1
    obtain ⟨a, o, ha, ho, vs, rfl, hr⟩ := mm1.at_ _ _ hm
    obtain ⟨a', ha', rfl⟩ := r1
    rw [ha] at ha'; cases ha'
    have hain : a ∈ as1 := List.mem_of_getElem? ha
    have hF : H1.F a = none := mm1.dis a hain
    have hnot : a ∉ as1.take k := fun z => by
      obtain ⟨j, hj, e⟩ := List.getElem_of_mem z
      rw [List.getElem_take] at e
      obtain ⟨l1, g1⟩ := List.getElem?_eq_some_iff.mp ha
      have hjk : j < k := by rw [List.length_take] at hj; omega
      have := (List.getElem_inj mm1.nd).mp (e.trans g1.symm)
      omega
    have ex : Ex H1.F (upd H1.F a (.dK vs)) := Evl.Ex.new hF
    have mk := mm1.take k hok2
    refine q2 _ as1 ⟨upd H1.F a (.dK vs), H1.H⟩ (dy (Dc.mk kvs)) _ (st1.trans ⟨List.prefix_refl _, ex, fun b h h' => ?_, fun b h h' => absurd h h', fun b u h _ => h, fun b h => h⟩) ⟨mk.nd, mk.len, fun b u h => ?_, fun b h => ?_, fun j d q => ?_⟩ ⟨a, vs, rfl, upd_same, ?_⟩ p
    · by_cases z : b = a
      · rw [z]; exact .inr hain
      · dsimp only at h'; rw [upd_ne z] at h'; exact absurd h h'
    · dsimp only at h ⊢
      by_cases z : b = a
      · subst z; rw [upd_same] at h; cases h; exact ho
      · rw [upd_ne z] at h; exact mm1.ex b u h
    · dsimp only
      rw [upd_ne (fun z => hnot (by rw [← z]; exact h))]; exact mk.dis b h
    · obtain ⟨b, o', h1, h2, h3⟩ := mk.at_ j d q
      exact ⟨b, o', h1, h2, d.mono ex (List.prefix_refl _) h3⟩
    · exact RepK.mono ex (List.prefix_refl _) (RepK.cut hok hr)
/-- sorted(d) -/
theorem rc_sortD {d : Dc β} (p : ∀ zs : List Int, zs.Perm (d.kvs.map (·.1)) → zs.Pairwise (· ≤ ·) → P (dy zs) M) : RC c Zr.rSortD [dy d] M P := fun as W vs Q m r k => by
  obtain ⟨v, rfl, a, ps, rfl, ho, hr⟩ := r.one
  have e : ∀ {ps : List (Key × V)} {kvs : List (Int × β)}, RepK c W.F as ps kvs → ps.map (·.1) = (kvs.map (·.1)).map Sum.inl := by
    intro ps kvs h
    induction h with
    | nil => rfl
    | cons r t ih => rw [List.map_cons, List.map_cons, List.map_cons, ih, r.1]
  exact ⟨a, ps, d.kvs.map (·.1), rfl, .inl (m.ex _ _ ho), e hr, fun zs p' h1 h2 hp => new_obj (z := dy zs) m (fun p F' hp e => ⟨p, _, rfl, sql_of hp, Irep zs⟩) k (p zs h1 h2) p' hp⟩
/-! ### sets of ints -/
structure ISet where
  ns : List Int
  n : Nat
  w : World
instance : Rep ISet where
  rep c F as v x := ∃ a, v = .ref a ∧ F a = some (SetO x.w a (fun j => decide (j ∈ x.ns)) x.n)
  ok _ _ := True
  mono := by rintro c F F' as as' v x e p ⟨a, rfl, h⟩; exact ⟨a, rfl, e _ _ h⟩
  cut := by rintro c F as v x k hk ⟨a, rfl, h⟩; exact ⟨a, rfl, h⟩
theorem rc_set {w : World} {ns : List Int} (hl : ns.length + 1 < scanBound) (p : ∀ n, n ≤ ns.length → P (dy (ISet.mk ns n w)) M) : RC c (Zr.rSetI c.K w) [dy ns] M P := fun as W vs Q m r k => by
  obtain ⟨v, rfl, a, ws, rfl, hs, q⟩ := r.one
  rw [repI q] at hs
  refine ⟨a, ns, rfl, sqL_mono m.ex hs, hl, fun p' n hn hp => ?_⟩
  obtain ⟨st, m'⟩ := MemOk.new (o := SetO w p' (fun j => decide (j ∈ ns)) n) m hp
  exact k _ as _ (dy (ISet.mk ns n w)) M st m' ⟨p', rfl, upd_same⟩ (p n hn)
theorem rc_sortS {w : World} {x : ISet} (hw : x.w = w) (h64 : x.n < 64) (p : ∀ zs : List Int, zs.Pairwise (· < ·) → (∀ j, j ∈ zs ↔ j ∈ x.ns) → zs.length = x.n → P (dy zs) M) : RC c (rSortedSet w) [dy x] M P := fun as W vs Q m r k => by
  obtain ⟨v, rfl, a, rfl, h⟩ := r.one
  refine ⟨a, _, x.n, rfl, by rw [m.ex _ _ h, hw], h64, fun zs p' h1 h2 h3 hp => ?_⟩
  exact new_obj (z := dy zs) m (fun p F' hp e => ⟨p, _, rfl, sql_of hp, Irep zs⟩) k (p zs h1 (fun j => by rw [h2]; simp) h3) p' hp
/-! ### lists that grow and shrink -/
theorem tyL {as : List Addr} {W : Hw} {v : V} {j : MR} {xs : List α} (m : MemOk c as W M) (h : M[j.k]? = some (cLst xs)) (r : rep c W.F as v j) : tyV c.K "list" v W.H := by
  obtain ⟨a, vs, ha, hv, hr⟩ := m.lst h
  obtain ⟨a', ha', rfl⟩ := r
  rw [ha] at ha'; cases ha'
  exact .inl ⟨rfl, vs, .inl (.inl hv)⟩
/-- l.append(e) -/
theorem ws_app {to : TE} (h : WE c to env M (As MR fun j m1 => ∃ ys : List α, m1[j.k]? = some (cLst ys) ∧ WE c te env m1 (As α fun x m2 => ∃ xs : List α, m2[j.k]? = some (cLst xs) ∧ xs.length < 100000 ∧ nx env (m2.set j.k (cLst (xs ++ [x])))))) : WS c k (tDrop (tBM c.K "list" rAppend to (tCons te tNil))) env M nx rt := fun as σ w D s q1 q2 =>
  h as σ w _ s fun v1 as1 w1 d1 m1 st1 mm1 r1 p1 => by
    obtain ⟨j, rfl, ys, hy, p1⟩ := p1
    refine ⟨tyL mm1 hy r1, p1 as1 σ w1 _ (s.step st1 mm1) fun v2 as2 w2 d2 m2 st2 mm2 r2 p2 => ?_⟩
    obtain ⟨x, rfl, xs, hx, hl, p⟩ := p2
    obtain ⟨a, vs, ha, hv, hr⟩ := mm2.lst hx
    obtain ⟨a', ha', rfl⟩ := Rep.mono (x := j) st2.ex st2.pre r1
    rw [ha] at ha'; cases ha'
    refine ⟨_, vs, v2, rfl, rfl, hv, Nat.lt_of_lt_of_le (by rw [hr.length]; exact hl) (by decide : 100000 ≤ sizeLine), ?_⟩
    obtain ⟨F2, H2⟩ := w2
    obtain ⟨st3, mm3⟩ := MemOk.put (o := .lst (vs ++ [v2])) (d := cLst (xs ++ [x])) mm2 ha ⟨_, rfl, hr.append (.cons r2 .nil)⟩
    exact q1 env _ as2 σ _ ((st1.trans st2).trans st3) ⟨s.sl.step ((st1.trans st2).trans st3), mm3⟩ p
/-- l.extend(a new list) -/
theorem ws_ext {to : TE} (h : WE c to env M (As MR fun j m1 => ∃ ys : List α, m1[j.k]? = some (cLst ys) ∧ WE c te env m1 (As MR fun j2 m2 => ∃ xs zs : List α, m2[j.k]? = some (cLst xs) ∧ m2[j2.k]? = some (cLst zs) ∧ xs.length + zs.length ≤ 100000 ∧ nx env (m2.set j.k (cLst (xs ++ zs)))))) : WS c k (tDrop (tBM c.K "list" rExtend to (tCons te tNil))) env M nx rt := fun as σ w D s q1 q2 =>
  h as σ w _ s fun v1 as1 w1 d1 m1 st1 mm1 r1 p1 => by
    obtain ⟨j, rfl, ys, hy, p1⟩ := p1
    refine ⟨tyL mm1 hy r1, p1 as1 σ w1 _ (s.step st1 mm1) fun v2 as2 w2 d2 m2 st2 mm2 r2 p2 => ?_⟩
    obtain ⟨j2, rfl, xs, zs, hx, hz, hl, p⟩ := p2
    obtain ⟨a, vs, ha, hv, hr⟩ := mm2.lst hx
    obtain ⟨b, us, hb, hu, hr2⟩ := mm2.lst hz
    obtain ⟨a', ha', rfl⟩ := Rep.mono (x := j) st2.ex st2.pre r1
    obtain ⟨b', hb', rfl⟩ := r2
    rw [ha] at ha'; cases ha'
    rw [hb] at hb'; cases hb'
    refine ⟨_, _, vs, us, rfl, rfl, hv, hu, small_le (by rw [hr.length, hr2.length]; exact hl), ?_⟩
    obtain ⟨F2, H2⟩ := w2
    obtain ⟨st3, mm3⟩ := MemOk.put (o := .lst (vs ++ us)) (d := cLst (xs ++ zs)) mm2 ha ⟨_, rfl, hr.append hr2⟩
    exact q1 env _ as2 σ _ ((st1.trans st2).trans st3) ⟨s.sl.step ((st1.trans st2).trans st3), mm3⟩ p
/-- l.pop() -/
theorem we_pop {to : TE} (h : WE c to env M (As MR fun j m1 => ∃ (xs : List α) (x : α), m1[j.k]? = some (cLst (xs ++ [x])) ∧ P (dy x) (m1.set j.k (cLst xs)))) : WE c (tBM0 c.K "list" rPop to) env M P := fun as σ w Q s q =>
  h as σ w _ s fun v1 as1 w1 d1 m1 st1 mm1 r1 p1 => by
    obtain ⟨j, rfl, xs, x, hx, p⟩ := p1
    refine ⟨tyL mm1 hx r1, ?_⟩
    obtain ⟨a, vs, ha, hv, hr⟩ := mm1.lst hx
    obtain ⟨a', ha', rfl⟩ := r1
    rw [ha] at ha'; cases ha'
    have hl := hr.length
    rw [List.length_append, List.length_singleton] at hl
    obtain ⟨u, hu, ru⟩ := hr.get (i := xs.length) (x := x) (by simp)
    have e : vs.length - 1 = xs.length := by omega
    refine ⟨_, vs, u, rfl, rfl, hv, by rw [e]; exact hu, ?_⟩
    have hd : RepL c w1.F as1 vs.dropLast xs := by
      have := hr.take xs.length
      rw [List.take_left, ← e, ← List.dropLast_eq_take] at this
      exact this
    obtain ⟨F1, H1⟩ := w1
    obtain ⟨st3, mm3⟩ := MemOk.put (o := .lst vs.dropLast) (d := cLst xs) mm1 ha ⟨_, rfl, hd⟩
    exact q u as1 _ (dy x) _ (st1.trans st3) mm3 (Rep.mono (x := x) st3.ex st3.pre ru) p
/-! ### what is walked -/
theorem walks_list {J : It} {as : List Addr} {w : Hw} {a : Addr} {vs : List V} {xs : List α} (hs : SqL c.K w.F a vs) (hr : RepL c w.F as vs xs) : Walks c (Itl c.K a) as w (xs.map dy) := by
  refine ⟨fun i as' w' M st m h => ?_, fun i as' w' M st m h => ?_, fun i as' w' x v H2 M st m h hy => ?_⟩
  · rw [List.length_map, ← hr.length] at h
    exact ⟨vs, vs[i], sqL_mono (st.ex.trans m.ex) hs, List.getElem?_eq_getElem h⟩
  · rw [List.length_map, ← hr.length] at h
    exact ⟨vs, sqL_mono (st.ex.trans m.ex) hs, Nat.le_of_eq h.symm⟩
  · obtain ⟨rfl, hy⟩ := hy
    have hv := hy vs (sqL_mono (st.ex.trans m.ex) hs)
    obtain ⟨y, h1, h2⟩ := hr.getV hv
    rw [List.getElem?_map, h1] at h
    cases h
    exact ⟨w'.F, .refl _ _, m, Rep.mono (x := y) st.ex st.pre h2⟩
theorem walks_tup {as : List Addr} {w : Hw} {a : Addr} {vs : List V} {xs : List α} (hs : SqT c.K w.F a vs) (hr : RepL c w.F as vs xs) : Walks c (Itt c.K a) as w (xs.map dy) := by
  refine ⟨fun i as' w' M st m h => ?_, fun i as' w' M st m h => ?_, fun i as' w' x v H2 M st m h hy => ?_⟩
  · rw [List.length_map, ← hr.length] at h
    exact ⟨vs, vs[i], sqT_mono (st.ex.trans m.ex) hs, List.getElem?_eq_getElem h⟩
  · rw [List.length_map, ← hr.length] at h
    exact ⟨vs, sqT_mono (st.ex.trans m.ex) hs, Nat.le_of_eq h.symm⟩
  · obtain ⟨rfl, hy⟩ := hy
    have hv := hy vs (sqT_mono (st.ex.trans m.ex) hs)
    obtain ⟨y, h1, h2⟩ := hr.getV hv
    rw [List.getElem?_map, h1] at h
    cases h
    exact ⟨w'.F, .refl _ _, m, Rep.mono (x := y) st.ex st.pre h2⟩
theorem wi_list (h : WE c te env M fun d m => ∃ xs : List α, d = dy xs ∧ Q (xs.map dy) m) : WI c (iList c.K te) env M Q := fun as σ w R s q =>
  h as σ w _ s fun v as1 w1 d m st mm r p => by
    obtain ⟨xs, rfl, p⟩ := p
    obtain ⟨a, vs, rfl, hs, hr⟩ := r
    exact ⟨a, rfl, ⟨vs, sqL_mono mm.ex hs⟩, q _ as1 w1 _ m st mm (walks_list (J := Itl c.K a) hs hr) p⟩
theorem wi_tup (h : WE c te env M fun d m => ∃ xs : Tp α, d = dy xs ∧ Q (xs.l.map dy) m) : WI c (iTup c.K te) env M Q := fun as σ w R s q =>
  h as σ w _ s fun v as1 w1 d m st mm r p => by
    obtain ⟨xs, rfl, p⟩ := p
    obtain ⟨a, vs, rfl, hs, hr⟩ := r
    exact ⟨a, rfl, ⟨vs, sqT_mono mm.ex hs⟩, q _ as1 w1 _ m st mm (walks_tup hs hr) p⟩
/-- 0, 1, .. below n -/
def upto (n : Nat) : List Int := (List.range n).map fun (i : Nat) => (i : Int)
theorem upto_len (n : Nat) : (upto n).length = n := by simp [upto]
theorem wi_range {ta : TA} (h : WA c ta env M fun ds m => ∃ n : Int, ds = [dy n] ∧ 0 ≤ n ∧ n ≤ 100000 ∧ Q ((upto n.toNat).map dy) m) : WI c (iRng1 ta) env M Q := fun as σ w R s q =>
  h as σ w _ s fun vs as1 w1 ds m st mm r p => by
    obtain ⟨n, rfl, h0, h1, p⟩ := p
    obtain ⟨v, rfl, rv⟩ := r.one
    obtain rfl : v = .int n := rv
    refine ⟨n, rfl, by omega, by omega, q _ as1 w1 _ m st mm ⟨fun i as' w' M' st m h => ?_, fun i as' w' M' st m h => ?_, fun i as' w' x v H2 M' st m h hy => ?_⟩ p⟩
    · rw [List.length_map, upto_len] at h; exact h
    · rw [List.length_map, upto_len] at h; exact Nat.le_of_eq h.symm
    · obtain ⟨rfl, rfl⟩ := hy
      refine ⟨w'.F, .refl _ _, m, ?_⟩
      unfold upto at h
      rw [List.map_map, List.getElem?_map] at h
      cases e : (List.range n.toNat)[i]? with
      | none => rw [e] at h; cases h
      | some j =>
        rw [e] at h
        cases h
        have : j = i := by
          obtain ⟨h1, h2⟩ := List.getElem?_eq_some_iff.mp e
          rw [List.getElem_range] at h2; exact h2.symm
        subst this
        show V.int (0 + (j : Int)) = V.int (j : Int)
        rw [Int.zero_add]
/-- each with its number -/
def nums (xs : List α) : List (Int × α) := (upto xs.length).zip xs
theorem nums_get {xs : List α} {i : Nat} {x : α} (h : xs[i]? = some x) : (nums xs)[i]? = some ((i : Int), x) := by
  obtain ⟨hl, _⟩ := List.getElem?_eq_some_iff.mp h
  unfold nums upto
  rw [List.getElem?_zip_eq_some]
  refine ⟨?_, h⟩
  rw [List.getElem?_map, List.getElem?_range hl] <;> rfl
theorem nums_len (xs : List α) : (nums xs).length = xs.length := by
  unfold nums
  rw [List.length_zip, upto_len, Nat.min_self]
theorem enum_step {as : List Addr} {w : Hw} {i : Nat} {v v' : V} {H2 : Hp} {T : Addr} {x : α} (m : MemOk c as w M) (hT : w.H T = none) (e : H2 = upd w.H T (.tup [.int (i : Nat), v'])) (hv : v = .ref T) (hr : rep c w.F as v' x) :
    ∃ F2, Step as w as ⟨F2, H2⟩ ∧ MemOk c as ⟨F2, H2⟩ M ∧ (dy ((i : Int), x)).h c F2 as v := by
  subst e hv
  obtain ⟨F, H⟩ := w
  obtain ⟨st, m'⟩ := MemOk.new (o := .tup [.int (i : Nat), v']) m hT
  exact ⟨_, st, m', T, .int (i : Nat), v', rfl, sqt_of upd_same, rfl, Rep.mono (x := x) st.ex st.pre hr⟩
theorem wi_enumL {ta : TA} (h : WA c ta env M fun ds m => ∃ xs : List α, ds = [dy xs] ∧ Q ((nums xs).map dy) m) : WI c (iEnum c.K ta) env M Q := fun as σ w R s q =>
  h as σ w _ s fun vs as1 w1 ds m st mm r p => by
    obtain ⟨xs, rfl, p⟩ := p
    obtain ⟨v, rfl, a, ws, rfl, hs, hr⟩ := r.one
    refine ⟨a, ws, rfl, sqL_mono mm.ex hs, q _ as1 w1 _ m st mm ⟨fun i as' w' M' st m h => ?_, fun i as' w' M' st m h => ?_, fun i as' w' x v H2 M' st m h hy => ?_⟩ p⟩
    · rw [List.length_map, nums_len, ← hr.length] at h
      exact ⟨ws, ws[i], sqL_mono (st.ex.trans m.ex) hs, List.getElem?_eq_getElem h⟩
    · rw [List.length_map, nums_len, ← hr.length] at h
      exact ⟨ws, sqL_mono (st.ex.trans m.ex) hs, Nat.le_of_eq h.symm⟩
    · obtain ⟨T, v', hv, hT, hH, hy⟩ := hy
      have hv' := hy ws (sqL_mono (st.ex.trans m.ex) hs)
      obtain ⟨y, h1, h2⟩ := hr.getV hv'
      rw [List.getElem?_map, nums_get h1] at h
      cases h
      exact enum_step m hT hH hv (Rep.mono (x := y) st.ex st.pre h2)
theorem wi_enumT {ta : TA} (h : WA c ta env M fun ds m => ∃ xs : Tp α, ds = [dy xs] ∧ Q ((nums xs.l).map dy) m) : WI c (Zr.iEnumT c.K ta) env M Q := fun as σ w R s q =>
  h as σ w _ s fun vs as1 w1 ds m st mm r p => by
    obtain ⟨xs, rfl, p⟩ := p
    obtain ⟨v, rfl, a, ws, rfl, hs, hr⟩ := r.one
    refine ⟨a, ws, rfl, sqT_mono mm.ex hs, q _ as1 w1 _ m st mm ⟨fun i as' w' M' st m h => ?_, fun i as' w' M' st m h => ?_, fun i as' w' x v H2 M' st m h hy => ?_⟩ p⟩
    · rw [List.length_map, nums_len, ← hr.length] at h
      exact ⟨ws, ws[i], sqT_mono (st.ex.trans m.ex) hs, List.getElem?_eq_getElem h⟩
    · rw [List.length_map, nums_len, ← hr.length] at h
      exact ⟨ws, sqT_mono (st.ex.trans m.ex) hs, h⟩
    · obtain ⟨T, v', hv, hT, hH, hy⟩ := hy
      have hv' := hy ws (sqT_mono (st.ex.trans m.ex) hs)
      obtain ⟨y, h1, h2⟩ := hr.getV hv'
      rw [List.getElem?_map, nums_get h1] at h
      cases h
      exact enum_step m hT hH hv (Rep.mono (x := y) st.ex st.pre h2)
end
end Zq
end
section
set_option Elab.async false
set_option linter.all false
set_option maxRecDepth 100000
/-! Cuts, membership, isinstance, objects, dict comprehensions. -/
namespace Zq
open PySem PySem.Spec PyProof.Rows L2
open Rep (rep)
section
variable {c : Cc} {env : Env'} {M : Mem} {Q : List Dy → Mem → Prop} {α β γ : Type} [Rep α] [Rep β] [Rep γ] {ta tb te : TE} {P : Dy → Mem → Prop} {B : Bool → Mem → Prop} {k : Nat} {nx : Env' → Mem → Prop} {rt : Dy → Mem → Prop}
/-! ### cuts -/
theorem cut_to (xs : List V) (n : Nat) : cutV xs none (some (n : Int)) = xs.take n := by
  unfold cutV
  rw [HT.sIx_none, HT.sIx_nat, List.drop_zero, Nat.sub_zero]
  rcases Nat.le_total n xs.length with h | h
  · rw [Nat.min_eq_left h]
  · rw [Nat.min_eq_right h, List.take_length, List.take_of_length_le h]
theorem we_slTo {n : Nat} (h : WE c te env M (As (List α) fun xs m => P (dy (xs.take n)) m)) : WE c (tSl (rSlL c.K) te tNoPart (tPart (tC (.int (n : Int))))) env M P := fun as σ w Q s q =>
  h as σ w _ s fun v as1 w1 d m1 st1 mm1 r1 p1 => by
    obtain ⟨xs, rfl, p⟩ := p1
    obtain ⟨a, vs, rfl, hs, hr⟩ := r1
    refine ⟨(n : Int), rfl, a, vs, rfl, sqL_mono mm1.ex hs, ?_⟩
    rw [cut_to]
    exact new_obj (z := dy (xs.take n)) mm1 (fun p F' hp e => ⟨p, _, rfl, sql_of hp, RepL.mono e (List.prefix_refl _) (hr.take n)⟩) (fun u as' w' z M' st m r p => q u as' w' z M' (st1.trans st) m r p) p
/-- t * n -/
theorem rr_repT {xs : Tp α} {n : Int} (h0 : xs.l ≠ []) (h1 : 2 ≤ n) (h2 : n ≤ 1000) (h3 : xs.l.length ≤ 1000) (p : P (dy (Tp.mk (List.replicate n.toNat xs.l).flatten)) M) : RR c (rRepT c.K) (dy xs) (dy n) M P := fun as W v w Q m r1 r2 k => by
  obtain ⟨a, vs, rfl, hs, hr⟩ := r1
  obtain rfl : w = .int n := r2
  have hne : vs ≠ [] := fun z => by
    have := hr.length
    rw [z] at this
    exact h0 (List.length_eq_zero_iff.mp this.symm)
  have rr : ∀ j : Nat, RepL c W.F as (List.replicate j vs).flatten (List.replicate j xs.l).flatten := by
    intro j
    induction j with
    | zero => exact .nil
    | succ j ih =>
      rw [List.replicate_succ, List.replicate_succ, List.flatten_cons, List.flatten_cons]
      exact hr.append ih
  exact ⟨a, n, vs, rfl, rfl, sqT_mono m.ex hs, hne, h1, h2, by rw [hr.length]; exact h3, new_obj (z := dy (Tp.mk (List.replicate n.toNat xs.l).flatten)) m (fun p F' hp e => ⟨p, _, rfl, sqt_of hp, RepL.mono e (List.prefix_refl _) (rr _)⟩) k p⟩
/-! ### x in .. -/
theorem inV_int (i : Int) : ∀ ns : List Int, inV (.int i) (ns.map V.int) = decide (i ∈ ns)
  | [] => by simp [inV]
  | n :: ns => by
    have ih := inV_int i ns
    unfold inV at ih ⊢
    rw [List.map_cons, List.any_cons, ih]
    show ((n == i) || decide (i ∈ ns)) = decide (i ∈ n :: ns)
    by_cases h : n = i
    · subst h; simp
    · have : ¬ i = n := fun z => h z.symm
      simp [h, this]
theorem flatI : ∀ ns : List Int, (ns.map V.int).all flatV = true
  | [] => rfl
  | n :: ns => by rw [List.map_cons, List.all_cons, flatI ns]; rfl
theorem rr_inT {i : Int} {xs : Tp Int} (p : P (dy (decide (i ∈ xs.l))) M) : RR c (rIn c.K false) (dy i) (dy xs) M P :=
  rr_pure (fun as W v w Q m r1 r2 k => by
    obtain rfl : v = .int i := r1
    obtain ⟨a, vs, rfl, hs, hr⟩ := r2
    rw [repI hr] at hs
    refine ⟨a, _, rfl, .inr (sqT_mono m.ex hs), rfl, flatI _, ?_⟩
    rw [if_neg (by simp), inV_int]
    exact k _ rfl) p
theorem rr_ninT {i : Int} {xs : Tp Int} (p : P (dy (!decide (i ∈ xs.l))) M) : RR c (rIn c.K true) (dy i) (dy xs) M P :=
  rr_pure (fun as W v w Q m r1 r2 k => by
    obtain rfl : v = .int i := r1
    obtain ⟨a, vs, rfl, hs, hr⟩ := r2
    rw [repI hr] at hs
    refine ⟨a, _, rfl, .inr (sqT_mono m.ex hs), rfl, flatI _, ?_⟩
    rw [if_pos rfl, inV_int]
    exact k _ rfl) p
theorem rr_inL {i : Int} {xs : List Int} (p : P (dy (decide (i ∈ xs))) M) : RR c (rIn c.K false) (dy i) (dy xs) M P :=
  rr_pure (fun as W v w Q m r1 r2 k => by
    obtain rfl : v = .int i := r1
    obtain ⟨a, vs, rfl, hs, hr⟩ := r2
    rw [repI hr] at hs
    refine ⟨a, _, rfl, .inl (sqL_mono m.ex hs), rfl, flatI _, ?_⟩
    rw [if_neg (by simp), inV_int]
    exact k _ rfl) p
theorem rr_ninL {i : Int} {xs : List Int} (p : P (dy (!decide (i ∈ xs))) M) : RR c (rIn c.K true) (dy i) (dy xs) M P :=
  rr_pure (fun as W v w Q m r1 r2 k => by
    obtain rfl : v = .int i := r1
    obtain ⟨a, vs, rfl, hs, hr⟩ := r2
    rw [repI hr] at hs
    refine ⟨a, _, rfl, .inl (sqL_mono m.ex hs), rfl, flatI _, ?_⟩
    rw [if_pos rfl, inV_int]
    exact k _ rfl) p
theorem rr_inM {i : Int} {j : MR} {xs : List Int} (hm : M[j.k]? = some (cLst xs)) (p : P (dy (decide (i ∈ xs))) M) : RR c (rIn c.K false) (dy i) (dy j) M P :=
  rr_pure (fun as W v w Q m r1 r2 k => by
    obtain rfl : v = .int i := r1
    obtain ⟨a, vs, h1, h2, hr⟩ := m.lst hm
    obtain ⟨a', h1', rfl⟩ := r2
    rw [h1] at h1'; cases h1'
    rw [repI hr] at h2
    refine ⟨_, _, rfl, .inl (sql_of h2), rfl, flatI _, ?_⟩
    rw [if_neg (by simp), inV_int]
    exact k _ rfl) p
theorem rr_ninM {i : Int} {j : MR} {xs : List Int} (hm : M[j.k]? = some (cLst xs)) (p : P (dy (!decide (i ∈ xs))) M) : RR c (rIn c.K true) (dy i) (dy j) M P :=
  rr_pure (fun as W v w Q m r1 r2 k => by
    obtain rfl : v = .int i := r1
    obtain ⟨a, vs, h1, h2, hr⟩ := m.lst hm
    obtain ⟨a', h1', rfl⟩ := r2
    rw [h1] at h1'; cases h1'
    rw [repI hr] at h2
    refine ⟨_, _, rfl, .inl (sql_of h2), rfl, flatI _, ?_⟩
    rw [if_pos rfl, inV_int]
    exact k _ rfl) p
theorem any_enc [Dt α] [DecidableEq α] (x : α) : ∀ xs : List α, ((xs.map Dt.enc).any fun z => PyData.eqv z (Dt.enc x)) = decide (x ∈ xs)
  | [] => by simp
  | y :: ys => by
    rw [List.map_cons, List.any_cons, any_enc x ys, Dt.eq]
    by_cases h : y = x
    · subst h; simp
    · have : ¬ x = y := fun z => h z.symm
      simp [h, this]
theorem shapedL [Dt α] [h : Lt64 (Dt.dep (α := α))] (xs : List α) : SeqAt.shaped (.list (xs.map Dt.enc)) = true := Dt.shaped (α := List α) xs
theorem rr_ninDM [Dt α] [DecidableEq α] [Lt64 (Dt.dep (α := α))] {x : α} {j : MR} {xs : List α} (hm : M[j.k]? = some (cLst xs)) (p : P (dy (!decide (x ∈ xs))) M) : RR c (rNotInD c.K) (dy x) (dy j) M P :=
  rr_pure (fun as W v w Q m r1 r2 k => by
    obtain ⟨a, vs, h1, h2, hr⟩ := m.lst hm
    obtain ⟨a', h1', rfl⟩ := r2
    rw [h1] at h1'; cases h1'
    refine ⟨Dt.enc x, xs.map Dt.enc, Dp.mono m.ex (Dt.dp r1), .lst (sql_of h2) (DpAll.mono m.ex (dpAll hr)), Dt.shaped x, shapedL xs, ?_⟩
    rw [any_enc]
    exact k _ rfl) p
theorem rr_inDL [Dt α] [DecidableEq α] [Lt64 (Dt.dep (α := α))] {x : α} {xs : List α} (p : P (dy (decide (x ∈ xs))) M) : RR c (rInD c.K) (dy x) (dy xs) M P :=
  rr_pure (fun as W v w Q m r1 r2 k => by
    refine ⟨Dt.enc x, xs.map Dt.enc, Dp.mono m.ex (Dt.dp r1), Dp.mono m.ex (Dt.dp (α := List α) r2), Dt.shaped x, shapedL xs, ?_⟩
    rw [any_enc]
    exact k _ rfl) p
/-! ### isinstance -/
structure PyTy where
  n : String
instance : Rep PyTy := ⟨fun _ _ _ v x => v = .ty x.n, fun _ _ => True, fun _ _ h => h, fun _ h => h⟩
theorem we_ty {n : String} (p : P (dy (PyTy.mk n)) M) : WE c (tC (.ty n)) env M P := fun as σ H Q s k => k _ as H (dy (PyTy.mk n)) M (.refl _ _) s.me rfl p
class OfTy (α : Type) [Rep α] (t : outParam String) : Prop where
  ty : ∀ {c F H as v} {x : α}, Ex F H → rep c F as v x → TyX c.K H v (.type t)
instance : OfTy Int "int" := ⟨fun _ h => by rw [show _ = V.int _ from h]; exact .base (.int _)⟩
instance : OfTy Bool "bool" := ⟨fun _ h => by rw [show _ = V.bl _ from h]; exact .base (.bl _)⟩
instance : OfTy Unit "NoneType" := ⟨fun _ h => by rw [show _ = V.non from h]; exact .base .non⟩
instance : OfTy Str "str" := ⟨fun _ h => by rw [show _ = V.str _ from h]; exact .base (.str _)⟩
theorem tyTup {K : PySem.W.Frag} {H : Hp} {a : Addr} {vs : List V} (h : SqT K H a vs) : TyX K H (.ref a) (.type "tuple") := by
  rcases h with (h | ⟨o, h⟩) | ⟨o, its, n, h1, h2, _⟩
  · exact .base (.tup h)
  · exact .fTuple h
  · exact .kTuple h1 h2
theorem tyLst {K : PySem.W.Frag} {H : Hp} {a : Addr} {vs : List V} (h : SqL K H a vs) : TyX K H (.ref a) (.type "list") := by
  rcases h with (h | ⟨o, h⟩) | ⟨o, its, n, h1, h2, _⟩
  · exact .base (.lst h)
  · exact .base (.frz h)
  · exact .kList h1 h2
instance : OfTy (List α) "list" := ⟨fun e h => by obtain ⟨a, vs, rfl, hs, _⟩ := h; exact tyLst (sqL_mono e hs)⟩
instance : OfTy (Tp α) "tuple" := ⟨fun e h => by obtain ⟨a, vs, rfl, hs, _⟩ := h; exact tyTup (sqT_mono e hs)⟩
instance : OfTy (α × β) "tuple" := ⟨fun e h => by obtain ⟨a, v1, v2, rfl, hs, _⟩ := h; exact tyTup (sqT_mono e hs)⟩
instance : OfTy (T3 α β γ) "tuple" := ⟨fun e h => by obtain ⟨a, v1, v2, v3, rfl, hs, _⟩ := h; exact tyTup (sqT_mono e hs)⟩
theorem rc_isi {t n : String} {x : α} [OfTy α t] {b : Bool} (hk : kitB t n = some b) (p : P (dy b) M) : RC c (rIsi c.K) [dy x, dy (PyTy.mk n)] M P := rc_pure (fun as W vs Q m r k => by
  obtain ⟨v, w, rfl, r1, r2⟩ := r.two
  obtain rfl : w = .ty n := r2
  exact ⟨v, .ty n, .type t, .type n, b, rfl, .ty n, OfTy.ty m.ex r1, kit_ty hk, k _ rfl⟩) p
/-! ### a table -/
structure Tab where
  cells : Int
  kinds : Tp Kind
deriving DecidableEq
instance : Rep Tab where
  rep c F as v x := ∃ a dx ps u, v = .ref a ∧ F a = some (.ins (c.cls "Table") dx ps) ∧ ps.lookup ("cells" : Str) = some (.int x.cells) ∧ ps.lookup ("kinds" : Str) = some u ∧ rep c F as u x.kinds
  ok x k := Rep.ok x.kinds k
  mono := by rintro c F F' as as' v x e p ⟨a, dx, ps, u, rfl, h, h1, h2, r⟩; exact ⟨a, dx, ps, u, rfl, e _ _ h, h1, h2, Rep.mono e p r⟩
  cut := by rintro c F as v x k hk ⟨a, dx, ps, u, rfl, h, h1, h2, r⟩; exact ⟨a, dx, ps, u, rfl, h, h1, h2, Rep.cut hk r⟩
instance : Some1 Tab := ⟨fun h z => by obtain ⟨a, _, _, _, e, _⟩ := h; rw [e] at z; cases z⟩
theorem we_cells (hc : Cls c.K (c.cls "Table")) (hn : NoAttr c.K (c.cls "Table") ("cells" : Str)) (h : WE c te env M (As Tab fun t m => P (dy t.cells) m)) : WE c (tFld c.K te ("cells" : Str)) env M P := fun as σ w Q s q =>
  h as σ w _ s fun v as1 w1 d m1 st1 mm1 r1 p1 => by
    obtain ⟨t, rfl, p⟩ := p1
    obtain ⟨a, dx, ps, u, rfl, ha, h1, h2, r⟩ := r1
    exact ⟨a, _, dx, ps, _, rfl, mm1.ex _ _ ha, hc, hn, h1, q _ as1 w1 (dy t.cells) m1 st1 mm1 rfl p⟩
theorem we_kinds (hc : Cls c.K (c.cls "Table")) (hn : NoAttr c.K (c.cls "Table") ("kinds" : Str)) (h : WE c te env M (As Tab fun t m => P (dy t.kinds) m)) : WE c (tFld c.K te ("kinds" : Str)) env M P := fun as σ w Q s q =>
  h as σ w _ s fun v as1 w1 d m1 st1 mm1 r1 p1 => by
    obtain ⟨t, rfl, p⟩ := p1
    obtain ⟨a, dx, ps, u, rfl, ha, h1, h2, r⟩ := r1
    exact ⟨a, _, dx, ps, _, rfl, mm1.ex _ _ ha, hc, hn, h2, q _ as1 w1 (dy t.kinds) m1 st1 mm1 r p⟩
/-- an object that is being made -/
def cIns (C : Addr) (n : Nat) (fs : List (Str × Dy)) : Cell where
  h c F as o := ∃ dx ps, o = .ins C dx ps ∧ ps.length ≤ n ∧ ∀ f d, fs.lookup f = some d → ∃ u, ps.lookup f = some u ∧ d.h c F as u
  mono := by
    rintro c F F' as as' o e p ⟨dx, ps, rfl, hn, h⟩
    exact ⟨dx, ps, rfl, hn, fun f d q => let ⟨u, h1, h2⟩ := h f d q; ⟨u, h1, d.mono e p h2⟩⟩
  ok j := ∀ f d, fs.lookup f = some d → d.ok j
  cut := by
    rintro c F as o j hj ⟨dx, ps, rfl, hn, h⟩
    exact ⟨dx, ps, rfl, hn, fun f d q => let ⟨u, h1, h2⟩ := h f d q; ⟨u, h1, d.cut (hj f d q) h2⟩⟩
theorem putF_len (f : Str) (v : V) : ∀ ps : List (Str × V), (putF f v ps).length ≤ ps.length + 1
  | [] => Nat.le_refl _
  | (g, x) :: r => by
    unfold putF
    split
    · simp
    · have := putF_len f v r
      simp only [List.length_cons]; omega
theorem ws_fld {to tv : TE} {f : Str} {C : Addr} (hc : Cls c.K C) (hf : NoAttr c.K C f) (h : WE c tv env M fun y m0 => WE c to env m0 (As MR fun j m1 => ∃ n fs, m1[j.k]? = some (cIns C n fs) ∧ n < 900 ∧ nx env (m1.set j.k (cIns C (n + 1) ((f, y) :: fs))))) : WS c k (sFld c.K to tv f) env M nx rt := fun as σ w D s q1 q2 =>
  h as σ w _ s fun v as1 w1 y m1 st1 mm1 r1 p1 => p1 as1 σ w1 _ (s.step st1 mm1) fun v2 as2 w2 d2 m2 st2 mm2 r2 p2 => by
    obtain ⟨j, rfl, n, fs, hm, hn, p⟩ := p2
    obtain ⟨a, o, ha, ho, dx, ps, rfl, hl, hfs⟩ := mm2.at_ _ _ hm
    obtain ⟨a', ha', rfl⟩ := r2
    rw [ha] at ha'; cases ha'
    refine ⟨_, C, dx, ps, rfl, ho, hc, hf, by omega, ?_⟩
    obtain ⟨F2, H2⟩ := w2
    obtain ⟨st3, mm3⟩ := MemOk.put (o := .ins C dx (putF f v ps)) (d := cIns C (n + 1) ((f, y) :: fs)) mm2 ha ⟨dx, _, rfl, by have := putF_len f v ps; omega, fun g d hg => by
      rw [lookup_putF]
      by_cases e : g = f
      · subst e
        have : (some y : Option Dy) = some d := by simpa [List.lookup] using hg
        cases this
        exact ⟨v, if_pos rfl, y.mono st2.ex st2.pre r1⟩
      · have e2 : (g == f) = false := by simpa using e
        have hg2 : fs.lookup g = some d := by simpa [List.lookup, e2] using hg
        rw [if_neg e]
        exact hfs g d hg2⟩
    exact q1 env _ as2 σ _ ((st1.trans st2).trans st3) ⟨s.sl.step ((st1.trans st2).trans st3), mm3⟩ p
theorem okDs0 : ∀ {ds : List Dy} {F : Hp} {as : List Addr} {vs : List V}, okDs 0 ds → RepDs c F as vs ds → RepDs c F [] vs ds := fun o r => by
  have := RepDs.cut (k := 0) o r
  simpa using this
/-- Table(..), its __init__ by S -/
theorem we_makeT {n : Nat} {S : ASp} {E : XK} {t : TA} (h : WA c t env M fun ds m1 => ds.length + 1 = n ∧ okDs 0 ds ∧ S (dy (MR.mk 0) :: ds) [cIns (c.cls "Table") 0 []] fun d m' => ∃ (tb : Tab) (q : Nat) (fs : List (Str × Dy)), m' = [cIns (c.cls "Table") q fs] ∧ d = dy () ∧ fs.lookup ("cells" : Str) = some (dy tb.cells) ∧ fs.lookup ("kinds" : Str) = some (dy tb.kinds) ∧ Rep.ok tb.kinds 0 ∧ P (dy tb) m1) :
    WE c (tMake (c.cls "Table") (spOf c n 1 S) [] E t) env M P := fun as σ w Q s q =>
  h as σ w _ s fun vs as1 w1 ds m1 st1 mm1 r1 p1 => by
    obtain ⟨hn, hok, hS⟩ := p1
    intro x dx hx hdx hne
    rw [List.append_nil]
    obtain ⟨F1, H1⟩ := w1
    have fx : F1 x = none := MemOk.fresh mm1 hx
    have fdx : F1 dx = none := MemOk.fresh mm1 hdx
    have ex0 : Ex F1 (upd F1 dx (.own x)) := Evl.Ex.new fdx
    have exH : Ex (upd F1 dx (.own x)) (upd (upd H1 dx (.own x)) x (.ins (c.cls "Table") dx [])) := fun b o hb => by
      by_cases e : b = dx
      · subst e; rw [upd_same] at hb; cases hb; rw [upd_ne hne, upd_same]
      · rw [upd_ne e] at hb
        have hb2 := mm1.ex b o hb
        have : b ≠ x := fun z => by rw [z, fx] at hb; cases hb
        rw [upd_ne this, upd_ne e]; exact hb2
    refine ⟨[x], upd F1 dx (.own x), dy (MR.mk 0) :: ds, [cIns (c.cls "Table") 0 []], _, rfl, by rw [List.length_cons]; exact hn, ⟨by simp, rfl, exH, fun a ha => ?_, fun j d hj => ?_⟩, .cons ⟨x, rfl, rfl⟩ (RepDs.mono ex0 ⟨[x], rfl⟩ (okDs0 hok r1)), hS, fun v w2 d m' st2 mm2 r2 p2 => ?_⟩
    · have : a = x := by simpa using ha
      subst this
      show upd F1 dx (.own a) a = none
      rw [upd_ne (Ne.symm hne)]; exact fx
    · match j, hj with
      | 0, hj =>
        have : cIns (c.cls "Table") 0 [] = d := by simpa using hj
        subst this
        exact ⟨x, _, rfl, upd_same, dx, [], rfl, Nat.le_refl _, fun f d hf => by simp [List.lookup] at hf⟩
      | j + 1, hj => simp at hj
    · obtain ⟨tb, nq, fs, rfl, rfl, hf1, hf2, hok2, p⟩ := p2
      obtain rfl : v = .non := r2
      obtain ⟨a, o, ha, ho, dx2, ps, rfl, hl2, hfs⟩ := mm2.at_ 0 _ rfl
      have : x = a := by simpa using ha
      subst this
      obtain ⟨u1, g1, g2⟩ := hfs _ _ hf1
      obtain ⟨u2, g3, g4⟩ := hfs _ _ hf2
      obtain rfl : u1 = .int tb.cells := g2
      obtain ⟨F2, H2⟩ := w2
      have fx2 : F2 x = none := mm2.dis x (by simp)
      have exT : Ex F2 (upd F2 x (.ins (c.cls "Table") dx2 ps)) := Evl.Ex.new fx2
      have exA : Ex F1 (upd F2 x (.ins (c.cls "Table") dx2 ps)) := (ex0.trans st2.ex).trans exT
      have keepH : ∀ b o, H1 b = some o → H2 b = some o := fun b o hb => by
        have n1 : b ≠ x := ne_of_none hb hx
        have n2 : b ≠ dx := ne_of_none hb hdx
        exact st2.keep b o (by dsimp only; rw [upd_ne n1, upd_ne n2]; exact hb) (by simpa using n1)
      have newF : ∀ b, F1 b = none → upd F2 x (.ins (c.cls "Table") dx2 ps) b ≠ none → H1 b = none := fun b hb hb2 => by
        by_cases e : b = x
        · rw [e]; exact hx
        · rw [upd_ne e] at hb2
          by_cases e2 : b = dx
          · rw [e2]; exact hdx
          · rcases st2.fr b (by dsimp only; rw [upd_ne e2]; exact hb) hb2 with z | z
            · dsimp only at z
              rw [upd_ne e, upd_ne e2] at z; exact z
            · exact absurd (by simpa using z) e
      refine ⟨rfl, q (.ref x) as1 ⟨upd F2 x (.ins (c.cls "Table") dx2 ps), H2⟩ (dy tb) m1 (st1.trans ⟨List.prefix_refl _, exA, fun b hb hb2 => .inl (newF b hb hb2), fun b h1 h2 => absurd h1 h2, fun b o hb _ => keepH b o hb, fun b hb => ?_⟩) ⟨mm1.nd, mm1.len, fun b o hb => ?_, fun b hb => ?_, fun j d hj => ?_⟩ ⟨x, dx2, ps, u2, rfl, upd_same, g1, g3, ?_⟩ p⟩
      · obtain ⟨o, ho2⟩ := Option.ne_none_iff_exists'.mp hb
        dsimp only
        rw [keepH b o ho2]; simp
      · dsimp only at hb ⊢
        by_cases e : b = x
        · subst e; rw [upd_same] at hb; cases hb; exact ho
        · rw [upd_ne e] at hb; exact mm2.ex b o hb
      · by_cases e : upd F2 x (.ins (c.cls "Table") dx2 ps) b = none
        · exact e
        · exact absurd (newF b (mm1.dis b hb) e) (MemOk.isSome mm1 hb)
      · obtain ⟨b, o', h1, h2, h3⟩ := mm1.at_ j d hj
        exact ⟨b, o', h1, keepH b o' h2, d.mono exA (List.prefix_refl _) h3⟩
      · have g5 := Rep.cut (k := 0) hok2 g4
        exact Rep.mono (F := F2) (as := []) exT (List.nil_prefix) (by simpa using g5)
/-! ### dict comprehensions, to change later -/
theorem dc_core {S : Type} {wi : TI} {g : TG} {tt : TT} {tk tv : TE} {vs : List Nat} {ts : List Nat} {Q : VK} {as : List Addr} {σ : L2.St} {w : Hw} (I : List β → S → List (Int × γ) → Prop) (Mm : S → Mem) (hts : ∀ t ∈ ts, t ∈ vs) (s : Sta c env M as σ w)
    (h : WI c wi env M fun ds M1 => ∃ xs : List β, ds = xs.map dy ∧ ∃ s0, I [] s0 [] ∧ M1 = Mm s0 ∧
      (∀ pre y post s acc, xs = pre ++ y :: post → I pre s acc → (Mm s).length = M1.length ∧ Keys1 acc ∧ WG c ts g (dy y) (wipeE env vs) (Mm s ++ [cDic acc]) fun e m => WT c tt e m fun b m1 =>
        (b = true → WE c tk e m1 (As Int fun i m2 => WE c tv e m2 (As γ fun z m3 => acc.length < 100000 ∧ ∃ s', I (pre ++ [y]) s' (dput acc i z) ∧ m3 = Mm s' ++ [cDic acc]))) ∧ (b = false → ∃ s', I (pre ++ [y]) s' acc ∧ m1 = Mm s' ++ [cDic acc])) ∧
      (∀ s acc, I xs s acc → (Mm s).length = M1.length ∧ ∀ as2 w2 D, Step as w (as2 ++ [D]) w2 → MemOk c (as2 ++ [D]) w2 (Mm s ++ [cDic acc]) → Q (.ref D) w2.H)) : tDc wi g tt tk tv vs σ w.H Q :=
  h as σ w _ s fun J as1 w1 ds M1 st1 mm1 wk p1 D hD => by
    obtain ⟨xs, rfl, s0, i0, rfl, turn, fin⟩ := p1
    have hml : (xs.map (dy (α := β))).length = xs.length := List.length_map _
    have sa := s.step st1 mm1
    obtain ⟨stD, mmD⟩ := MemOk.newCell (d := cDic ([] : List (Int × γ))) (o := .dK []) mm1 hD ⟨[], rfl, .nil⟩
    have hn : as1.length = (Mm s0).length := mm1.len.symm
    have hlen : ∀ i s6 acc, i ≤ xs.length → I (xs.take i) s6 acc → (Mm s6).length = (Mm s0).length := fun i s6 acc hi h6 => by
      by_cases h7 : i < xs.length
      · exact (turn (xs.take i) xs[i] (xs.drop (i + 1)) s6 _ (by rw [← List.drop_eq_getElem_cons h7, List.take_append_drop]) h6).1
      · have : xs.take i = xs := List.take_of_length_le (by omega)
        rw [this] at h6
        exact (fin s6 _ h6).1
    refine ⟨fun i m H' => m = xs.length - i ∧ i ≤ xs.length ∧ ∃ F' s' acc, Step (as1 ++ [D]) ⟨w1.F, upd w1.H D (.dK [])⟩ (as1 ++ [D]) ⟨F', H'⟩ ∧ I (xs.take i) s' acc ∧ MemOk c (as1 ++ [D]) ⟨F', H'⟩ (Mm s' ++ [cDic acc]), ⟨xs.length, by simp, Nat.zero_le _, w1.F, s0, [], .refl _ _, by simpa using i0, mmD⟩, ?_⟩
    rintro i m H' ⟨rfl, hi, F', s', acc, st, hI, hM⟩
    have stJ : Step as1 w1 (as1 ++ [D]) ⟨F', H'⟩ := stD.trans st
    by_cases hlt : i < xs.length
    · refine .inr ⟨wk.go i _ _ _ stJ hM (by rw [hml]; exact hlt), fun H2 => ∃ F2 s2 acc2, Step (as1 ++ [D]) ⟨w1.F, upd w1.H D (.dK [])⟩ (as1 ++ [D]) ⟨F2, H2⟩ ∧ I (xs.take (i + 1)) s2 acc2 ∧ MemOk c (as1 ++ [D]) ⟨F2, H2⟩ (Mm s2 ++ [cDic acc2]), fun H2 ⟨F2, s2, acc2, a1, a3, a4⟩ => ⟨xs.length - (i + 1), by omega, rfl, hlt, F2, s2, acc2, a1, a3, a4⟩, fun v H2 hy => ?_⟩
      have hx : xs[i]? = some xs[i] := List.getElem?_eq_getElem hlt
      obtain ⟨F2, st2, mm2, rv⟩ := wk.yld i _ _ (dy xs[i]) v H2 _ stJ hM (by rw [List.getElem?_map, hx] <;> rfl) hy
      have spl : xs = xs.take i ++ xs[i] :: xs.drop (i + 1) := by
        rw [← List.drop_eq_getElem_cons hlt, List.take_append_drop]
      have htk : xs.take i ++ [xs[i]] = xs.take (i + 1) := by rw [List.take_add_one, hx] <;> rfl
      obtain ⟨hle, nd, tr⟩ := turn (xs.take i) xs[i] (xs.drop (i + 1)) s' acc spl hI
      have hS2 : Sta c (wipeE env vs) (Mm s' ++ [cDic acc]) (as1 ++ [D]) (wipe σ vs) ⟨F2, H2⟩ := ⟨(sa.sl.step (stJ.trans st2)).wipe vs, mm2⟩
      refine tr (as1 ++ [D]) (wipe σ vs) ⟨F2, H2⟩ v _ hS2 rv fun e3 m3 as3 σ3 w3 st3 s3 z3 p3 => ?_
      refine ⟨(z3 vs hts).trans (wipe_idem vs fun t ht y q => wipe_none ht y q), ?_⟩
      refine p3 as3 σ3 w3 _ s3 fun b as4 w4 m4 st4 mm4 p4 => ?_
      have stA : Step (as1 ++ [D]) ⟨w1.F, upd w1.H D (.dK [])⟩ as4 w4 := (((st.trans st2).trans st3).trans st4)
      cases b with
      | true =>
        rw [if_pos rfl]
        refine p4.1 rfl as4 σ3 w4 _ (s3.step st4 mm4) fun v5 as5 w5 z m5 st5 mm5 r5 p5 => ?_
        obtain ⟨ki, rfl, p5⟩ := p5
        obtain rfl : v5 = .int ki := r5
        refine p5 as5 σ3 w5 _ (s3.step (st4.trans st5) mm5) fun v6 as6 w6 z m6 st6 mm6 r6 p6 => ?_
        obtain ⟨z, rfl, hsz, s6, i6, rfl⟩ := p6
        rw [htk] at i6
        have stB : Step (as1 ++ [D]) ⟨w1.F, upd w1.H D (.dK [])⟩ as6 w6 := (stA.trans st5).trans st6
        have h6 := hlen (i + 1) s6 _ hlt i6
        have has6 : as6 = as1 ++ [D] := by
          refine Step.unhide stB ?_
          rw [← mm6.len, List.length_append, h6, hn]; rfl
        subst has6
        have hkD : (as1 ++ [D])[(Mm s6).length]? = some D := by
          rw [h6, ← hn]; simp
        obtain ⟨a, o, ha, ho, ws, rfl, hr⟩ := mm6.at_ (Mm s6).length (cDic acc) (by simp)
        rw [hkD] at ha; cases ha
        refine ⟨ws, Sum.inl ki, rfl, ho, Nat.lt_of_lt_of_le (by rw [rk_len hr]; exact hsz) (by decide : 100000 ≤ sizeLine), ?_⟩
        obtain ⟨stP, mmP⟩ := MemOk.put (d := cDic (dput acc ki z)) (o := .dK (putK ws (Sum.inl ki) v6)) mm6 hkD ⟨_, rfl, rk_put nd hr r6⟩
        have e9 : (Mm s6 ++ [cDic acc]).set (Mm s6).length (cDic (dput acc ki z)) = Mm s6 ++ [cDic (dput acc ki z)] := by
          rw [List.set_append_right _ _ (Nat.le_refl _)]; simp
        rw [e9] at mmP
        exact ⟨w6.F, s6, dput acc ki z, stB.trans stP, i6, mmP⟩
      | false =>
        rw [if_neg Bool.false_ne_true]
        obtain ⟨s6, i6, rfl⟩ := p4.2 rfl
        rw [htk] at i6
        have h6 := hlen (i + 1) s6 _ hlt i6
        have has4 : as4 = as1 ++ [D] := by
          refine Step.unhide stA ?_
          rw [← mm4.len, List.length_append, h6, hn]; rfl
        subst has4
        exact ⟨w4.F, s6, acc, stA, i6, mm4⟩
    · have e : i = xs.length := by omega
      subst e
      rw [List.take_length] at hI
      exact .inl ⟨wk.stop _ _ _ _ stJ hM hml.symm, (fin s' acc hI).2 as1 ⟨F', H'⟩ D (st1.trans stJ) hM⟩
theorem we_dcC {S : Type} {wi : TI} {g : TG} {tt : TT} {tk tv : TE} {vs ts : List Nat} (I : List β → S → List (Int × γ) → Prop) (Mm : S → Mem) (hts : ∀ t ∈ ts, t ∈ vs)
    (h : WI c wi env M fun ds M1 => ∃ xs : List β, ds = xs.map dy ∧ ∃ s0, I [] s0 [] ∧ M1 = Mm s0 ∧
      (∀ pre y post s acc, xs = pre ++ y :: post → I pre s acc → (Mm s).length = M1.length ∧ Keys1 acc ∧ WG c ts g (dy y) (wipeE env vs) (Mm s ++ [cDic acc]) fun e m => WT c tt e m fun b m1 =>
        (b = true → WE c tk e m1 (As Int fun i m2 => WE c tv e m2 (As γ fun z m3 => acc.length < 100000 ∧ ∃ s', I (pre ++ [y]) s' (dput acc i z) ∧ m3 = Mm s' ++ [cDic acc]))) ∧ (b = false → ∃ s', I (pre ++ [y]) s' acc ∧ m1 = Mm s' ++ [cDic acc])) ∧
      (∀ s acc, I xs s acc → (Mm s).length = M1.length ∧ P (dy (MR.mk M1.length)) (Mm s ++ [cDic acc]))) : WE c (tDc wi g tt tk tv vs) env M P := fun as σ w Q s q =>
  dc_core I Mm hts s fun as1 σ1 w1 R s1 kk => h as1 σ1 w1 R s1 fun J as2 w2 ds M1 st2 mm2 wk p => kk J as2 w2 ds M1 st2 mm2 wk (by
    obtain ⟨xs, eds, s0, i0, e0, turn, fin⟩ := p
    refine ⟨xs, eds, s0, i0, e0, turn, fun s' acc hI => ⟨(fin s' acc hI).1, fun as3 w3 D st3 mm3 => ?_⟩⟩
    obtain ⟨f1, f4⟩ := fin s' acc hI
    refine q _ (as3 ++ [D]) w3 (dy (MR.mk M1.length)) _ st3 mm3 ⟨D, ?_, rfl⟩ f4
    have h1 := mm3.len
    simp only [List.length_append, List.length_cons, List.length_nil] at h1
    have : M1.length = as3.length := by omega
    show (as3 ++ [D])[M1.length]? = some D
    rw [this]; simp)
/-! ### a range from its end -/
def downto (n : Nat) : List Int := (upto n).reverse
theorem wi_rev (h : WE c te env M (As Int fun n m => 0 ≤ n ∧ n ≤ 100000 ∧ Q ((downto n.toNat).map dy) m)) : WI c (iRevR (tRg1 te)) env M Q := fun as σ w R s q =>
  h as σ w _ s fun v as1 w1 d m st mm r p => by
    obtain ⟨n, rfl, h0, h1, p⟩ := p
    obtain rfl : v = .int n := r
    have hl : ((downto n.toNat).map (dy (α := Int))).length = n.toNat := by simp [downto, upto_len]
    have e0 : (n - 0).toNat = n.toNat := by rw [Int.sub_zero]
    refine ⟨n, rfl, by omega, by omega, by omega, by omega, q _ as1 w1 _ m st mm ⟨fun i as' w' M' st m h => ?_, fun i as' w' M' st m h => ?_, fun i as' w' x v H2 M' st m h hy => ?_⟩ p⟩
    · rw [hl] at h; show i < (n - 0).toNat; rw [e0]; exact h
    · rw [hl] at h; show (n - 0).toNat ≤ i; rw [e0]; exact Nat.le_of_eq h.symm
    · obtain ⟨rfl, rfl⟩ := hy
      refine ⟨w'.F, .refl _ _, m, ?_⟩
      rw [List.getElem?_map] at h
      cases e : (downto n.toNat)[i]? with
      | none => rw [e] at h; cases h
      | some j =>
        rw [e] at h
        cases h
        have hi : i < n.toNat := by
          have := (List.getElem?_eq_some_iff.mp e).1
          simpa [downto, upto_len] using this
        have hj : j = ((n.toNat - 1 - i : Nat) : Int) := by
          unfold downto upto at e
          rw [← List.map_reverse, List.getElem?_map, List.getElem?_reverse (by simpa using hi), List.length_range, List.getElem?_range (by omega)] at e
          simpa using e.symm
        show V.int _ = V.int j
        rw [hj]
        congr 1
        rw [e0]
        omega
end
end Zq
end
section
set_option Elab.async false
set_option linter.all false
set_option maxRecDepth 100000
/-! name = {k: v for ..} on one line. -/
namespace Zr
open PySem PySem.Spec PyProof.Rows L2
theorem swD_true {kx vx : Expr} {gs : List Comprehension} {scope : Scope} {pos py : Pos} {y : Str} {l : Nat} {env : Env} (h1 : env.scope.kind = .function) (h2 : env.scope.names.lookup y = some .local) (h3 : (py.line == pos.line) = true)
    (h4 : (scope.names.any fun (n, k) => n == y && (k == .local || k == .cell)) = false) : swapsWith (.DictComp kx vx gs scope pos) (some (.Name y py)) l env = pure true := by
  have kb : env.blockKind = .function := by unfold Env.blockKind; rw [h1]; rfl
  have ky : env.kindOf y = some .local := h2
  unfold swapsWith
  simp only [kb, ky, h4, Expr.pos, h3]
  rfl
theorem ps_setDc {X : Cx} {i : Nat} {y : Str} {py : Pos} {kx vx tg iter : Expr} {ifs : List Expr} {scope : Scope} {own : List (Str × Nat)} {pos spos : Pos} {wi : TI} {g : TG} {tt : TT} {tk tv : TE} (hc : X.calm = true) (hN : X.N.Nodup) (hy : X.N[i]? = some y) (hyl : X.env.scope.names.lookup y = some .local)
    (hsw : swapsWith (.DictComp kx vx [⟨tg, iter, ifs, 0⟩] scope pos) (some (.Name y py)) spos.line X.env = pure true) (hi : PI X tg iter wi) (ok : BlkOk X.N X.env.scope scope own)
    (hg : ∀ (s : Shared) (H : Hp) (C : Addr) (cl : List (Str × Addr)) (fp : List Addr), PG (X.blk s H scope (compEnvC scope cl C X.env) fp) tg g)
    (ht : ∀ (s : Shared) (H : Hp) (C : Addr) (cl : List (Str × Addr)) (fp : List Addr), PTs (X.blk s H scope (compEnvC scope cl C X.env) fp) ifs tt)
    (hk : ∀ (s : Shared) (H : Hp) (C : Addr) (cl : List (Str × Addr)) (fp : List Addr), PE (X.blk s H scope (compEnvC scope cl C X.env) fp) kx tk)
    (he : ∀ (s : Shared) (H : Hp) (C : Addr) (cl : List (Str × Addr)) (fp : List Addr), PE (X.blk s H scope (compEnvC scope cl C X.env) fp) vx tv)
    (hs : ∀ x, foldedSetIterable iter X.env x = pure x := by intro _; rfl) :
    PS X (.Assign [.Name y py] (.DictComp kx vx [⟨tg, iter, ifs, 0⟩] scope pos) spos) (tAsg (tDc wi g tt tk tv (own.map (·.2))) (gName i)) := by
  constructor
  intro pins s σ H D I h
  rw [exec_Assign_Name_used _ _ _ _ hsw]
  refine wpAny_bind (wpAny_standAt (wpAny_bind ?_))
  show wpAny _ X.A (do
    let _ ← comprehension (.DictComp kx vx [⟨tg, iter, ifs, 0⟩] scope pos) scope X.env (firstIterPos [⟨tg, iter, ifs, 0⟩] pos) newDict false (eval iter X.env) (some (assign (.Name y py) X.env))) _ _ s
  have ask : tDc wi g tt tk tv (own.map (·.2)) σ H (fun x H1 => gName i x σ H1 D.nx) := h
  refine wpAny_bind (thn (dc_core (Qf := fun _ s2 => SP X pins D .next s2) hc hN I hi ok hg ht hk he hs ask ?_) fun _ s2 hq => wpAny_pure (wpAny_pure hq))
  intro L C s2 m H2 I2 q hn fr
  show wpAny _ _ (assign (.Name y py) X.env (.ref L)) _ _ _
  refine wpAny_assign_Name (store_ok2 (v := V.ref L) I2 hN hy (.inl hyl) rfl ?_ (.inr hyl))
  rintro s3 I3 ⟨a, sb, ha⟩
  obtain ⟨f0, f1, f2, f3, f4, f5⟩ := fr
  have ne : C ≠ a := ha.elim (fun z => by rw [z]; exact f1) fun z e => f4 y a z e.symm
  exact ⟨m, hn.sameBut sb ne, fun h3 sb3 => ⟨_, H2, I3.turned (t' := s3.toks) (fun b o hb e => (sb3.2 b hb).trans e) f0 f1 f3 f4 f5, q⟩⟩
end Zr
end
section
set_option Elab.async false
set_option linter.all false
set_option maxRecDepth 100000
/-! The hand that draws; promises' small change. -/
namespace Zq
open PySem PySem.Spec PyProof.Rows L2
open Rep (rep)
/-- the drawing hand, its five parts -/
def cHandX (cells : List Int) (a b s n : Int) : Cell where
  h c F as o := ∃ v, o = .lst [v, .int a, .int b, .int s, .int n] ∧ rep c F as v cells
  mono := by rintro c F F' as as' o e p ⟨v, rfl, r⟩; exact ⟨v, rfl, Rep.mono (x := cells) e p r⟩
  ok k := Rep.ok cells k
  cut := by rintro c F as o k hk ⟨v, rfl, r⟩; exact ⟨v, rfl, Rep.cut (x := cells) hk r⟩
theorem okL_int {k : Nat} : ∀ xs : List Int, okL k xs
  | [] => trivial
  | _ :: xs => ⟨trivial, okL_int xs⟩
/-- the drawing hand -/
def cHand : Cell where
  h c F as o := ∃ (cells : List Int) (a b s n : Int), 0 ≤ a ∧ (cHandX cells a b s n).h c F as o
  mono := by rintro c F F' as as' o e p ⟨cs, a, b, s, n, h0, h⟩; exact ⟨cs, a, b, s, n, h0, (cHandX cs a b s n).mono e p h⟩
  ok _ := True
  cut := by rintro c F as o k hk ⟨cs, a, b, s, n, h0, h⟩; exact ⟨cs, a, b, s, n, h0, (cHandX cs a b s n).cut (okL_int cs) h⟩
section
variable {c : Cc} {env : Env'} {M : Mem} {Q : List Dy → Mem → Prop} {α β γ : Type} [Rep α] [Rep β] [Rep γ] {ta tb te : TE} {P : Dy → Mem → Prop} {B : Bool → Mem → Prop} {k : Nat} {nx : Env' → Mem → Prop} {rt rt' : Dy → Mem → Prop}
/-- it is opened -/
theorem ws_open {t : TS} (h : ∀ (cells : List Int) (a b s n : Int), 0 ≤ a → WS c k t env [cHandX cells a b s n] nx rt) : WS c k t env [cHand] nx rt := fun as σ w D st q1 q2 => by
  obtain ⟨a0, o, h1, h2, cs, a, b, s, n, h0, hh⟩ := st.me.at_ 0 cHand rfl
  refine h cs a b s n h0 as σ w D ⟨st.sl, st.me.nd, st.me.len, st.me.ex, st.me.dis, fun j d hj => ?_⟩ q1 q2
  match j, hj with
  | 0, hj =>
    have : cHandX cs a b s n = d := by simpa using hj
    subst this
    exact ⟨a0, o, h1, h2, hh⟩
  | j + 1, hj => simp at hj
/-- .. and shut at the end -/
theorem ws_shut {t : TS} (h : WS c k t env M nx fun x m => ∃ (cells : List Int) (a b s n : Int), 0 ≤ a ∧ m = [cHandX cells a b s n] ∧ rt x [cHand]) : WS c k t env M nx rt := fun as σ w D st q1 q2 =>
  h as σ w D st q1 fun v as' w' x m' st' mm r p => by
    obtain ⟨cs, a, b, s, n, h0, rfl, p⟩ := p
    refine q2 v as' w' x [cHand] st' ⟨mm.nd, mm.len, mm.ex, mm.dis, fun j d hj => ?_⟩ r p
    match j, hj with
    | 0, hj =>
      have : cHand = d := by simpa using hj
      subst this
      obtain ⟨a0, o, h1, h2, hh⟩ := mm.at_ 0 _ rfl
      exact ⟨a0, o, h1, h2, cs, a, b, s, n, h0, hh⟩
    | j + 1, hj => simp at hj
section
variable {cells : List Int} {a b s n : Int}
theorem rr_hand (i : Int) {z : Dy} (hz : ∀ F as v, rep c F as v cells → (i = 0 → z.h c F as v) ∧ (i = 1 → z.h c F as (.int a)) ∧ (i = 2 → z.h c F as (.int b)) ∧ (i = 3 → z.h c F as (.int s)) ∧ (i = 4 → z.h c F as (.int n))) (hi : i = 0 ∨ i = 1 ∨ i = 2 ∨ i = 3 ∨ i = 4) (h0 : M[0]? = some (cHandX cells a b s n)) (p : P z M) : RR c (rIxL c.K) (dy (MR.mk 0)) (dy i) M P :=
  rr_pure (fun as W v w Q m r1 r2 k => by
    obtain ⟨a0, o, h1, h2, v0, rfl, r⟩ := m.at_ 0 _ h0
    obtain ⟨a1, h1', rfl⟩ := r1
    rw [h1] at h1'; cases h1'
    obtain ⟨g0, g1, g2, g3, g4⟩ := hz W.F as v0 r
    rcases hi with rfl | rfl | rfl | rfl | rfl
    · exact ⟨_, _, _, v0, rfl, r2, sql_of h2, rfl, k _ (g0 rfl)⟩
    · exact ⟨_, _, _, _, rfl, r2, sql_of h2, rfl, k _ (g1 rfl)⟩
    · exact ⟨_, _, _, _, rfl, r2, sql_of h2, rfl, k _ (g2 rfl)⟩
    · exact ⟨_, _, _, _, rfl, r2, sql_of h2, rfl, k _ (g3 rfl)⟩
    · exact ⟨_, _, _, _, rfl, r2, sql_of h2, rfl, k _ (g4 rfl)⟩) p
theorem rr_hand0 (h0 : M[0]? = some (cHandX cells a b s n)) (p : P (dy cells) M) : RR c (rIxL c.K) (dy (MR.mk 0)) (dy (0 : Int)) M P :=
  rr_hand 0 (z := dy cells) (fun F as v r => ⟨fun _ => r, by omega, by omega, by omega, by omega⟩) (by omega) h0 p
theorem rr_hand1 (h0 : M[0]? = some (cHandX cells a b s n)) (p : P (dy a) M) : RR c (rIxL c.K) (dy (MR.mk 0)) (dy (1 : Int)) M P :=
  rr_hand 1 (z := dy a) (fun F as v r => ⟨by omega, fun _ => rfl, by omega, by omega, by omega⟩) (by omega) h0 p
theorem rr_hand2 (h0 : M[0]? = some (cHandX cells a b s n)) (p : P (dy b) M) : RR c (rIxL c.K) (dy (MR.mk 0)) (dy (2 : Int)) M P :=
  rr_hand 2 (z := dy b) (fun F as v r => ⟨by omega, by omega, fun _ => rfl, by omega, by omega⟩) (by omega) h0 p
theorem rr_hand3 (h0 : M[0]? = some (cHandX cells a b s n)) (p : P (dy s) M) : RR c (rIxL c.K) (dy (MR.mk 0)) (dy (3 : Int)) M P :=
  rr_hand 3 (z := dy s) (fun F as v r => ⟨by omega, by omega, by omega, fun _ => rfl, by omega⟩) (by omega) h0 p
theorem rr_hand4 (h0 : M[0]? = some (cHandX cells a b s n)) (p : P (dy n) M) : RR c (rIxL c.K) (dy (MR.mk 0)) (dy (4 : Int)) M P :=
  rr_hand 4 (z := dy n) (fun F as v r => ⟨by omega, by omega, by omega, by omega, fun _ => rfl⟩) (by omega) h0 p
/-- one of its ints set -/
theorem wg_hand {to ti : TE} {x : Int} (h : WE c to env [cHandX cells a b s n] (As MR fun j m1 => j.k = 0 ∧ m1 = [cHandX cells a b s n] ∧ WE c ti env m1 (As Int fun i m2 => m2 = [cHandX cells a b s n] ∧
    ((i = 1 ∧ nx env [cHandX cells x b s n]) ∨ (i = 2 ∧ nx env [cHandX cells a x s n]) ∨ (i = 3 ∧ nx env [cHandX cells a b x n]) ∨ (i = 4 ∧ nx env [cHandX cells a b s x]))))) : WG c [] (gSub to ti rSetL) (dy x) env [cHandX cells a b s n] nx := fun as σ w v N st r q =>
  h as σ w _ st fun u1 as1 w1 d1 m1 st1 mm1 r1 p1 => by
    obtain ⟨j, rfl, hj, rfl, p1⟩ := p1
    refine p1 as1 σ w1 _ (st.step st1 mm1) fun u2 as2 w2 d2 m2 st2 mm2 r2 p2 => ?_
    obtain ⟨i, rfl, rfl, p⟩ := p2
    obtain ⟨a0, o, h1, h2, v0, rfl, rr⟩ := mm2.at_ 0 _ rfl
    obtain ⟨a1, h1', rfl⟩ := Rep.mono (x := j) st2.ex st2.pre r1
    rw [hj, h1] at h1'; cases h1'
    obtain rfl : v = .int x := r
    obtain rfl : u2 = .int i := r2
    obtain ⟨F2, H2⟩ := w2
    have put : ∀ (l : List V) (d : Cell), d.h c F2 as2 (.lst l) → nx env [d] → N σ (upd H2 a0 (.lst l)) := fun l d hd hp => by
      obtain ⟨st3, mm3⟩ := MemOk.put (o := .lst l) (d := d) mm2 h1 hd
      exact q env _ as2 σ _ ((st1.trans st2).trans st3) ⟨st.sl.step ((st1.trans st2).trans st3), mm3⟩ (fun _ _ => rfl) hp
    rcases p with ⟨rfl, p⟩ | ⟨rfl, p⟩ | ⟨rfl, p⟩ | ⟨rfl, p⟩
    · exact ⟨_, _, 1, 1, rfl, rfl, h2, rfl, put _ (cHandX cells x b s n) ⟨v0, rfl, rr⟩ p⟩
    · exact ⟨_, _, 2, 2, rfl, rfl, h2, rfl, put _ (cHandX cells a x s n) ⟨v0, rfl, rr⟩ p⟩
    · exact ⟨_, _, 3, 3, rfl, rfl, h2, rfl, put _ (cHandX cells a b x n) ⟨v0, rfl, rr⟩ p⟩
    · exact ⟨_, _, 4, 4, rfl, rfl, h2, rfl, put _ (cHandX cells a b s x) ⟨v0, rfl, rr⟩ p⟩
end
theorem RepDs.cons_inv {F : Hp} {as : List Addr} {vs : List V} {x : Dy} {ds : List Dy} (h : RepDs c F as vs (x :: ds)) : ∃ v us, vs = v :: us ∧ x.h c F as v ∧ RepDs c F as us ds := by
  cases h with
  | cons r t => exact ⟨_, _, rfl, r, t⟩
/-- a new hand -/
theorem we_lstH {t : TA} (h : WA c t env M fun ds m => ∃ (cells : List Int) (a b s n : Int), ds = [dy cells, dy a, dy b, dy s, dy n] ∧ 0 ≤ a ∧ P (dy (MR.mk m.length)) (m ++ [cHand])) : WE c (tLst t) env M P := fun as σ H Q s k =>
  h as σ H _ s fun vs as1 H1 ds M1 st1 m1 r1 p1 => by
    obtain ⟨cells, a, b, s, n, rfl, h0, p⟩ := p1
    obtain ⟨v1, us, rfl, q1, t⟩ := RepDs.cons_inv r1
    obtain ⟨v2, us, rfl, q2, t⟩ := RepDs.cons_inv t
    obtain ⟨v3, v4, v5, rfl, q3, q4, q5⟩ := RepDs.three t
    obtain rfl : v2 = .int a := q2
    obtain rfl : v3 = .int b := q3
    obtain rfl : v4 = .int s := q4
    obtain rfl : v5 = .int n := q5
    refine ⟨small_le (by simp), fun q hq => ?_⟩
    obtain ⟨F1, H1⟩ := H1
    obtain ⟨st, m'⟩ := MemOk.newCell (o := .lst [v1, .int a, .int b, .int s, .int n]) (d := cHand) m1 hq ⟨cells, a, b, s, n, h0, v1, rfl, q1⟩
    exact k _ _ _ (dy (MR.mk M1.length)) _ (st1.trans st) m' ⟨q, by show (as1 ++ [q])[M1.length]? = some q; rw [m1.len]; simp, rfl⟩ p
def spHand (c : Cc) : Sp := fun vs H Q _ => ∃ (F : Hp) (ns : List Int), MemOk c [] ⟨F, H⟩ [] ∧ RepDs c F [] vs [dy ns] ∧ ns.length ≤ 63 ∧ ∀ p w', Step [] ⟨F, H⟩ [p] w' → MemOk c [p] w' [cHand] → Q (.ref p) w'.H
theorem we_callH {E : XK} {t : TA} (h : WA c t env M fun ds m => ∃ ns : List Int, ds = [dy ns] ∧ ns.length ≤ 63 ∧ P (dy (MR.mk m.length)) (m ++ [cHand])) : WE c (tCall (spHand c) [] E t) env M P := fun as σ w Q s q =>
  h as σ w _ s fun vs as1 w1 ds m1 st1 mm1 r1 p1 => by
    obtain ⟨ns, rfl, hl, p⟩ := p1
    rw [List.append_nil]
    refine ⟨w1.F, ns, ⟨List.nodup_nil, rfl, mm1.ex, (fun a h => by cases h), fun j d hj => by simp at hj⟩, okDs0 ⟨okL_int ns, trivial⟩ r1, hl, fun x w2 st2 mm2 => ?_⟩
    have hx : w1.H x = none := st2.frA x (by simp) (by simp)
    have hnot : x ∉ as1 := MemOk.notin (F := w1.F) (H := w1.H) mm1 hx
    have keep : ∀ a o, w1.H a = some o → w2.H a = some o := fun a o ha => st2.keep a o ha (by simp)
    have fr : ∀ a, w1.F a = none → w2.F a ≠ none → w1.H a = none := fun a h1 h2 => (st2.fr a h1 h2).elim id fun z => by simp at z
    have st3 : Step as1 w1 (as1 ++ [x]) w2 := ⟨⟨[x], rfl⟩, st2.ex, fun a h1 h2 => .inl (fr a h1 h2), fun a h1 h2 => by
      have : a = x := by
        rcases List.mem_append.mp h1 with z | z
        · exact absurd z h2
        · simpa using z
      rw [this]; exact hx, fun a o ha _ => keep a o ha, st2.dom⟩
    obtain ⟨a0, o, g1, g2, g3⟩ := mm2.at_ 0 _ rfl
    have e0 : x = a0 := by simpa using g1
    subst e0
    refine q (.ref x) (as1 ++ [x]) w2 (dy (MR.mk m1.length)) (m1 ++ [cHand]) (st1.trans st3) ⟨?_, by rw [List.length_append, List.length_append, mm1.len] <;> rfl, mm2.ex, fun a ha => ?_, fun j d hj => ?_⟩ ⟨x, by show (as1 ++ [x])[m1.length]? = some x; rw [mm1.len]; simp, rfl⟩ p
    · rw [List.nodup_append]
      refine ⟨mm1.nd, by simp, fun a ha b hb => ?_⟩
      have : b = x := by simpa using hb
      subst this
      intro z; subst z; exact hnot ha
    · rcases List.mem_append.mp ha with z | z
      · by_cases e : w2.F a = none
        · exact e
        · exact absurd (fr a (mm1.dis a z) e) (MemOk.isSome (F := w1.F) (H := w1.H) mm1 z)
      · exact mm2.dis a (by simpa using z)
    · by_cases hjl : j < m1.length
      · rw [List.getElem?_append_left hjl] at hj
        obtain ⟨b, o', h1, h2, h3⟩ := mm1.at_ j d hj
        exact ⟨b, o', by rw [List.getElem?_append_left (by rw [← mm1.len]; exact hjl)]; exact h1, keep b o' h2, d.mono st2.ex ⟨[x], rfl⟩ h3⟩
      · rw [List.getElem?_append_right (by omega)] at hj
        have h0 : j - m1.length = 0 := by
          have := (List.getElem?_eq_some_iff.mp hj).1
          simp at this; omega
        rw [h0] at hj
        have : cHand = d := by simpa using hj
        subst this
        have hj2 : j = as1.length := by have := mm1.len; omega
        subst hj2
        exact ⟨x, o, by simp, g2, by
          obtain ⟨cs, a', b', s', n', z0, z1⟩ := g3
          exact ⟨cs, a', b', s', n', z0, by
            have := (cHandX cs a' b' s' n').cut (k := 0) (okL_int cs) z1
            exact (cHandX cs a' b' s' n').mono (F := w2.F) (as := []) (Evl.Ex.refl _) List.nil_prefix (by simpa using this)⟩⟩
/-- the last statement, as it is -/
theorem ret_raw {as : List Addr} {σ : L2.St} {w : Hw} {D : Ends} (h : WE c te env M P) (s : Sta c env M as σ w) (k : ∀ v as' w' d m, Step as w as' w' → MemOk c as' w' m → d.h c w'.F as' v → P d m → D.rt v w'.H) : tRet te D σ w.H := h as σ w _ s k
end
end Zq
end
section
set_option Elab.async false
set_option linter.all false
set_option maxRecDepth 100000
/-! Data that names no cell; loops and comprehensions of the common kinds. -/
namespace Zq
open PySem PySem.Spec PyProof.Rows L2
open Rep (rep)
/-- data that names no cell -/
class Free (α : Type) [Rep α] : Prop where
  ok : ∀ (x : α) (k : Nat), Rep.ok x k
instance : Free Int := ⟨fun _ _ => trivial⟩
instance : Free Bool := ⟨fun _ _ => trivial⟩
instance : Free Unit := ⟨fun _ _ => trivial⟩
instance : Free Str := ⟨fun _ _ => trivial⟩
instance : Free ISet := ⟨fun _ _ => trivial⟩
theorem Free.l {α : Type} [Rep α] [Free α] (k : Nat) : ∀ xs : List α, okL k xs
  | [] => trivial
  | x :: xs => ⟨Free.ok x k, Free.l k xs⟩
theorem Free.k {α : Type} [Rep α] [Free α] (k : Nat) : ∀ xs : List (Int × α), okK k xs
  | [] => trivial
  | x :: xs => ⟨Free.ok x.2 k, Free.k k xs⟩
instance {α : Type} [Rep α] [Free α] : Free (List α) := ⟨fun x k => Free.l k x⟩
instance {α : Type} [Rep α] [Free α] : Free (Tp α) := ⟨fun x k => Free.l k x.l⟩
instance {α β : Type} [Rep α] [Rep β] [Free α] [Free β] : Free (α × β) := ⟨fun x k => ⟨Free.ok x.1 k, Free.ok x.2 k⟩⟩
instance {α β γ : Type} [Rep α] [Rep β] [Rep γ] [Free α] [Free β] [Free γ] : Free (T3 α β γ) := ⟨fun x k => ⟨Free.ok x.a k, Free.ok x.b k, Free.ok x.c k⟩⟩
instance {α : Type} [Rep α] [Free α] : Free (Option α) := ⟨fun x k => by cases x with | none => trivial | some y => exact Free.ok y k⟩
instance {β : Type} [Rep β] [Free β] : Free (Dc β) := ⟨fun x k => Free.k k x.kvs⟩
instance : Free Tab := ⟨fun x k => Free.ok x.kinds k⟩
theorem dy_ok {α : Type} [Rep α] [Free α] (x : α) (k : Nat) : (dy x).ok k := Free.ok x k
theorem cLst_ok {α : Type} [Rep α] [Free α] (xs : List α) (k : Nat) : (cLst xs).ok k := Free.l k xs
theorem cDic_ok {α : Type} [Rep α] [Free α] (xs : List (Int × α)) (k : Nat) : (cDic xs).ok k := Free.k k xs
theorem hand_ok (k : Nat) : cHand.ok k := trivial
theorem mr_ok {j k : Nat} (h : j < k) : (dy (MR.mk j)).ok k := h
theorem okM_nil {k : Nat} : okM k [] := trivial
theorem okM_cons {k : Nat} {d : Cell} {m : Mem} (h : d.ok k) (h2 : okM k m) : okM k (d :: m) := ⟨h, h2⟩
theorem okE_nil {k : Nat} : okE k [] := trivial
theorem okE_none {k : Nat} {e : Env'} (h2 : okE k e) : okE k (none :: e) := h2
theorem okE_cons {k : Nat} {d : Dy} {e : Env'} (h : d.ok k) (h2 : okE k e) : okE k (some d :: e) := ⟨h, h2⟩
theorem okDs_nil {k : Nat} : okDs k [] := trivial
theorem okDs_cons {k : Nat} {d : Dy} {e : List Dy} (h : d.ok k) (h2 : okDs k e) : okDs k (d :: e) := ⟨h, h2⟩
theorem paired_snoc {α β : Type} {R : α → β → Prop} {x : α} {y : β} (h2 : R x y) : ∀ {xs : List α} {ys : List β}, Paired R xs ys → Paired R (xs ++ [x]) (ys ++ [y])
  | _, _, .nil => .cons h2 .nil
  | _, _, .cons r t => .cons r (paired_snoc h2 t)
theorem paired_len {α β : Type} {R : α → β → Prop} : ∀ {xs : List α} {ys : List β}, Paired R xs ys → xs.length = ys.length
  | _, _, .nil => rfl
  | _, _, .cons _ t => by rw [List.length_cons, List.length_cons, paired_len t]
instance : Lt64 (Dt.dep (α := Int)) := ⟨by decide⟩
instance : Lt64 (Dt.dep (α := Bool)) := ⟨by decide⟩
instance dtTI : Dt (Tp Int) := instDtT
instance dtLI : Dt (List Int) := instDtL
instance : Lt64 (Dt.dep (α := Tp Int)) := ⟨by decide⟩
instance dtKd : Dt Kind := instDtP
instance : Lt64 (Dt.dep (α := Kind)) := ⟨by decide⟩
instance dtTK : Dt (Tp Kind) := instDtT
theorem tup_nil {c : Cc} {P : Dy → Mem → Prop} {M : Mem} (h : P (dy (Tp.mk ([] : List Int))) M) : TupOk c [] P M := tup_tp (α := Int) [] rfl (Nat.zero_le _) h
theorem bt_tt {X Y : Prop} (h : X) : (true = true → X) ∧ (true = false → Y) := ⟨fun _ => h, fun z => absurd z (by decide)⟩
theorem bt_ff {X Y : Prop} (h : Y) : (false = true → X) ∧ (false = false → Y) := ⟨fun z => absurd z (by decide), fun _ => h⟩
theorem bt_nt {X Y : Prop} (h : Y) : ((!true) = true → X) ∧ ((!true) = false → Y) := ⟨fun z => absurd z (by decide), fun _ => h⟩
theorem bt_nf {X Y : Prop} (h : X) : ((!false) = true → X) ∧ ((!false) = false → Y) := ⟨fun _ => h, fun z => absurd z (by decide)⟩
theorem bt_ft {X Y : Prop} (h : X) : (true = false → Y) ∧ (true = true → X) := ⟨fun z => absurd z (by decide), fun _ => h⟩
theorem bt_tf {X Y : Prop} (h : Y) : (false = false → Y) ∧ (false = true → X) := ⟨fun _ => h, fun z => absurd z (by decide)⟩
theorem bt_nt' {X Y : Prop} (h : Y) : ((!true) = false → Y) ∧ ((!true) = true → X) := ⟨fun _ => h, fun z => absurd z (by decide)⟩
theorem bt_nf' {X Y : Prop} (h : X) : ((!false) = false → Y) ∧ ((!false) = true → X) := ⟨fun z => absurd z (by decide), fun _ => h⟩
theorem bt_t {b : Bool} {X Y : Prop} (e : b = true) (h : X) : (b = true → X) ∧ (b = false → Y) := ⟨fun _ => h, fun z => absurd (e.symm.trans z) (by decide)⟩
theorem bt_f {b : Bool} {X Y : Prop} (e : b = false) (h : Y) : (b = true → X) ∧ (b = false → Y) := ⟨fun z => absurd (e.symm.trans z) (by decide), fun _ => h⟩
theorem bt_t' {b : Bool} {X Y : Prop} (e : b = true) (h : X) : (b = false → Y) ∧ (b = true → X) := ⟨fun z => absurd (e.symm.trans z) (by decide), fun _ => h⟩
theorem bt_f' {b : Bool} {X Y : Prop} (e : b = false) (h : Y) : (b = false → Y) ∧ (b = true → X) := ⟨fun _ => h, fun z => absurd (e.symm.trans z) (by decide)⟩
theorem ex_l {α : Type} [Rep α] {m : Mem} {k : Nat} {Z : List α → Prop} {xs : List α} (h : m[k]? = some (cLst xs)) (z : Z xs) : ∃ ys : List α, m[k]? = some (cLst ys) ∧ Z ys := ⟨xs, h, z⟩
theorem ex_d {α : Type} [Rep α] {m : Mem} {k : Nat} {Z : List (Int × α) → Prop} {xs : List (Int × α)} (h : m[k]? = some (cDic xs)) (z : Z xs) : ∃ ys : List (Int × α), m[k]? = some (cDic ys) ∧ Z ys := ⟨xs, h, z⟩
theorem ca5 {n k : Nat} {ds : List Dy} {M : Mem} {Z : Prop} (h1 : ds.length = n) (h2 : k ≤ M.length) (h3 : okDs k ds) (h4 : okM k (M.take k)) (h5 : Z) : ds.length = n ∧ k ≤ M.length ∧ okDs k ds ∧ okM k (M.take k) ∧ Z := ⟨h1, h2, h3, h4, h5⟩
theorem ca3 {k : Nat} {d : Dy} {M : Mem} {Z : Prop} (h1 : d.ok k) (h4 : okM k (M.take k)) (h5 : Z) : d.ok k ∧ okM k (M.take k) ∧ Z := ⟨h1, h4, h5⟩
section
variable {c : Cc} {env : Env'} {M : Mem} {α β γ : Type} [Rep α] [Rep β] [Rep γ] [Free γ] {ta tb te : TE} {P : Dy → Mem → Prop} {B : Bool → Mem → Prop} {k : Nat} {nx : Env' → Mem → Prop} {rt : Dy → Mem → Prop}
theorem rr_ixTm1 {xs : Tp α} {y : α} (h : xs.l[xs.l.length - 1]? = some y) (p : P (dy y) M) : RR c (rIxT c.K) (dy xs) (dy (-1 : Int)) M P :=
  rr_pure (fun as W v w Q m r1 r2 k => by
    obtain ⟨a, vs, rfl, hs, r⟩ := r1
    obtain ⟨u, hu, ru⟩ := r.get h
    have hl := (List.getElem?_eq_some_iff.mp hu).1
    have hv := r.length
    have e : atI vs (-1) = some u := by
      unfold atI ixN
      rw [if_neg (by omega), if_pos (by omega)]
      show vs[(-1 + (vs.length : Int)).toNat]? = some u
      rw [show (-1 + (vs.length : Int)).toNat = xs.l.length - 1 by omega]
      exact hu
    exact ⟨a, vs, -1, u, rfl, r2, sqT_mono m.ex hs, e, k _ ru⟩) p
/-- a comprehension that leaves the cells as they are: what is let, told -/
theorem we_lcF {wi : TI} {g : TG} {tt : TT} {vs : List Nat} (ts : List Nat) (f : β → γ) (p : β → Bool) (hts : ∀ t ∈ ts, t ∈ vs) (om : okM M.length M)
    (h : WI c wi env M fun ds M1 => M1 = M ∧ ∃ xs : List β, ds = xs.map dy ∧ xs.length ≤ 100000 ∧
      (∀ y, y ∈ xs → ∀ acc : List γ, WG c ts g (dy y) (wipeE env vs) (M ++ [cLst acc]) fun e m => WT c tt e m fun b m1 => m1 = M ++ [cLst acc] ∧ b = p y ∧ (b = true → WE c te e (M ++ [cLst acc]) fun z m2 => z = dy (f y) ∧ m2 = M ++ [cLst acc])) ∧
      P (dy ((xs.filter p).map f)) M) : WE c (tLc wi g tt te vs) env M P := by
  refine we_lc (β := β) (γ := γ) (S := Unit) (ts := ts) (fun pre _ acc => acc = (pre.filter p).map f) (fun _ => M) hts fun as σ w R s q => h as σ w R s fun J as' w' ds M1 st mm wk hp => q J as' w' ds M1 st mm wk ?_
  obtain ⟨rfl, xs, rfl, hl, turn, fin⟩ := hp
  refine ⟨xs, rfl, (), rfl, rfl, fun pre y post s acc e I => ⟨rfl, fun as σ w v N s' r q => turn y (by rw [e]; simp) acc as σ w v N s' r fun e' M' as' σ' w' st sta wp hp => q e' M' as' σ' w' st sta wp (WT.mono hp fun b m1 hb => ?_)⟩, fun s acc I => ⟨rfl, Free.l _ _, om, by rw [I]; exact fin⟩⟩
  obtain ⟨rfl, hb, hw⟩ := hb
  subst I
  refine ⟨fun b1 => ?_, fun b0 => ⟨(), ?_, rfl⟩⟩
  · subst b1
    refine WE.mono (hw rfl) fun z m2 hz => ?_
    obtain ⟨rfl, rfl⟩ := hz
    refine ⟨f y, rfl, ?_, (), ?_, rfl⟩
    · rw [List.length_map]
      have h1 := List.length_filter_le p pre
      have h2 : pre.length < xs.length := by rw [e]; simp
      omega
    · show _ = List.map f (List.filter p (pre ++ [y]))
      rw [List.filter_append, List.map_append, List.filter_cons, ← hb, if_pos rfl] <;> rfl
  · subst b0
    show _ = List.map f (List.filter p (pre ++ [y]))
    rw [List.filter_append, List.filter_cons, ← hb, if_neg Bool.false_ne_true, List.filter_nil, List.append_nil]
/-- the same, all told -/
theorem we_lcM {wi : TI} {g : TG} {vs : List Nat} (ts : List Nat) (f : β → γ) (hts : ∀ t ∈ ts, t ∈ vs) (om : okM M.length M)
    (h : WI c wi env M fun ds M1 => M1 = M ∧ ∃ xs : List β, ds = xs.map dy ∧ xs.length ≤ 100000 ∧
      (∀ y, y ∈ xs → ∀ acc : List γ, WG c ts g (dy y) (wipeE env vs) (M ++ [cLst acc]) fun e m => m = M ++ [cLst acc] ∧ WE c te e m fun z m2 => z = dy (f y) ∧ m2 = M ++ [cLst acc]) ∧
      P (dy (xs.map f)) M) : WE c (tLc wi g tYes te vs) env M P := by
  refine we_lcF ts f (fun _ => true) hts om fun as σ w R s q => h as σ w R s fun J as' w' ds M1 st mm wk hp => q J as' w' ds M1 st mm wk ?_
  obtain ⟨rfl, xs, rfl, hl, turn, fin⟩ := hp
  refine ⟨rfl, xs, rfl, hl, fun y hy acc as σ w v N s' r q => turn y hy acc as σ w v N s' r fun e' M' as' σ' w' st sta wp hp => q e' M' as' σ' w' st sta wp (wt_yes ⟨hp.1, rfl, fun _ => ?_⟩), ?_⟩
  · have := hp.2
    rw [hp.1] at this
    exact this
  · rw [List.filter_eq_self.mpr (fun _ _ => rfl)]; exact fin
/-- all are told, each in G with what it is made of -/
theorem we_lcR {wi : TI} {g : TG} {vs : List Nat} (ts : List Nat) (G : β → γ → Prop) (hts : ∀ t ∈ ts, t ∈ vs) (om : okM M.length M)
    (h : WI c wi env M fun ds M1 => M1 = M ∧ ∃ xs : List β, ds = xs.map dy ∧ xs.length ≤ 100000 ∧
      (∀ y, y ∈ xs → ∀ acc : List γ, WG c ts g (dy y) (wipeE env vs) (M ++ [cLst acc]) fun e m => m = M ++ [cLst acc] ∧ WE c te e (M ++ [cLst acc]) (As γ fun z m2 => m2 = M ++ [cLst acc] ∧ G y z)) ∧
      ∀ zs : List γ, Paired G xs zs → P (dy zs) M) : WE c (tLc wi g tYes te vs) env M P := by
  refine we_lc (β := β) (γ := γ) (S := Unit) (ts := ts) (fun pre _ acc => Paired G pre acc) (fun _ => M) hts fun as σ w R s q => h as σ w R s fun J as' w' ds M1 st mm wk hp => q J as' w' ds M1 st mm wk ?_
  obtain ⟨rfl, xs, rfl, hl, turn, fin⟩ := hp
  refine ⟨xs, rfl, (), .nil, rfl, fun pre y post s acc e I => ⟨rfl, fun as σ w v N s' r q => turn y (by rw [e]; simp) acc as σ w v N s' r fun e' M' as' σ' w' st sta wp hp => q e' M' as' σ' w' st sta wp (wt_yes ?_)⟩, fun s acc I => ⟨rfl, Free.l _ _, om, fin acc I⟩⟩
  obtain ⟨rfl, hw⟩ := hp
  refine ⟨fun _ => WE.mono hw fun z m2 hz => ?_, fun b0 => by cases b0⟩
  obtain ⟨z, rfl, rfl, hG⟩ := hz
  refine ⟨z, rfl, ?_, (), paired_snoc hG I, rfl⟩
  have h1 := paired_len I
  have h2 : pre.length < xs.length := by rw [e]; simp
  omega
/-- a dict comprehension that leaves the other cells as they are -/
theorem we_dcF {wi : TI} {g : TG} {tk tv : TE} {vs : List Nat} (ts : List Nat) (kf : β → Int) (vf : β → γ) (hts : ∀ t ∈ ts, t ∈ vs)
    (h : WI c wi env M fun ds M1 => M1 = M ∧ ∃ xs : List β, ds = xs.map dy ∧ xs.length ≤ 100000 ∧
      (∀ y, y ∈ xs → ∀ acc : List (Int × γ), WG c ts g (dy y) (wipeE env vs) (M ++ [cDic acc]) fun e m => m = M ++ [cDic acc] ∧ WE c tk e m (As Int fun i m2 => i = kf y ∧ WE c tv e m2 fun z m3 => z = dy (vf y) ∧ m3 = M ++ [cDic acc])) ∧
      P (dy (MR.mk M.length)) (M ++ [cDic (xs.foldl (fun m y => dput m (kf y) (vf y)) [])])) : WE c (tDc wi g tYes tk tv vs) env M P := by
  refine we_dcC (β := β) (γ := γ) (S := Unit) (ts := ts) (fun pre _ acc => acc = pre.foldl (fun m y => dput m (kf y) (vf y)) [] ∧ Keys1 acc ∧ acc.length ≤ pre.length) (fun _ => M) hts fun as σ w R s q => h as σ w R s fun J as' w' ds M1 st mm wk hp => q J as' w' ds M1 st mm wk ?_
  obtain ⟨rfl, xs, rfl, hl, turn, fin⟩ := hp
  refine ⟨xs, rfl, (), ⟨rfl, keys1_nil, Nat.le_refl _⟩, rfl, fun pre y post s acc e I => ⟨rfl, I.2.1, fun as σ w v N s' r q => turn y (by rw [e]; simp) acc as σ w v N s' r fun e' M' as' σ' w' st sta wp hp => q e' M' as' σ' w' st sta wp (wt_yes ?_)⟩, fun s acc I => ⟨rfl, by rw [I.1]; exact fin⟩⟩
  obtain ⟨rfl, hw⟩ := hp
  refine ⟨fun _ => WE.mono hw fun z m2 hz => ?_, fun b0 => absurd b0 (by decide)⟩
  obtain ⟨i, rfl, rfl, hv⟩ := hz
  refine ⟨_, rfl, WE.mono hv fun z m3 hz => ?_⟩
  obtain ⟨rfl, rfl⟩ := hz
  have h2 : pre.length < xs.length := by rw [e]; simp
  have h3 := I.2.2
  refine ⟨vf y, rfl, by omega, (), ⟨?_, keys1_put I.2.1 _ _, ?_⟩, rfl⟩
  · rw [List.foldl_append, ← I.1]; rfl
  · have : ∀ (m : List (Int × γ)) (k : Int) (b : γ), (dput m k b).length ≤ m.length + 1 := fun m k b => by
      induction m with
      | nil => exact Nat.le_refl _
      | cons p r ih =>
        show (if p.1 = k then (k, b) :: r else p :: dput r k b).length ≤ _
        split
        · simp
        · simp only [List.length_cons]; omega
    have := this acc (kf y) (vf y)
    rw [List.length_append, List.length_cons, List.length_nil]; omega
/-- for as a fold -/
theorem ws_fold {S : Type} {wi : TI} {g : TG} {tb : TS} (ts : List Nat) (f : S → β → S) (s0 : S) (E : S → Env') (Mm : S → Mem) (J : List β → S → Prop)
    (h : WI c wi env M fun ds M1 => ∃ xs : List β, ds = xs.map dy ∧ J [] s0 ∧ Cut M1.length env M1 (E s0) (Mm s0) ∧
      (∀ pre y post s, xs = pre ++ y :: post → s = pre.foldl f s0 → J pre s → WG c ts g (dy y) (E s) (Mm s) fun e m => WS c k tb e m (fun e' m' => J (pre ++ [y]) (f s y) ∧ Cut M1.length e' m' (E (f s y)) (Mm (f s y))) rt) ∧
      (∀ s, s = xs.foldl f s0 → J xs s → nx (E s) (Mm s))) : WS c k (tFor wi g tb) env M nx rt := by
  refine ws_for (β := β) (S := S) (ts := ts) (fun pre s => s = pre.foldl f s0 ∧ J pre s) E Mm fun as σ w R s q => h as σ w R s fun J' as' w' ds M1 st mm wk hp => q J' as' w' ds M1 st mm wk ?_
  obtain ⟨xs, rfl, j0, c0, turn, fin⟩ := hp
  refine ⟨xs, rfl, s0, ⟨rfl, j0⟩, c0, fun pre y post s e I => ?_, fun s I => fin s I.1 I.2⟩
  have T := turn pre y post s e I.1 I.2
  intro as σ w v N s' r q
  refine T as σ w v N s' r fun e' M' as' σ' w' st sta wp hp => q e' M' as' σ' w' st sta wp ?_
  refine WS.mono hp (fun e m z => ⟨f s y, ⟨?_, z.1⟩, z.2⟩) fun _ _ z => z
  rw [I.1, List.foldl_append]; rfl
end
end Zq
end
section
set_option Elab.async false
set_option linter.all false
set_option maxRecDepth 100000
/-! enumerate of a list or a tuple, start=k. -/
namespace Zr
open PySem PySem.Spec PyProof.Rows L2
/-- a list or a tuple -/
def SqB (b : Bool) (K : PySem.W.Frag) (H : Hp) (a : Addr) (xs : List V) : Prop := match b with | true => SqT K H a xs | false => SqL K H a xs
/-- what stands at a, each item in a new pair with its number from k on -/
def ItK (b : Bool) (K : PySem.W.Frag) (a : Addr) (k : Int) : It where
  go i H := ∃ (xs : List V) (x : V), SqB b K H a xs ∧ xs[i]? = some x
  yld i H v H' := ∃ T x, v = .ref T ∧ H T = none ∧ H' = upd H T (.tup [.int (k + (i : Int)), x]) ∧ ∀ xs, SqB b K H a xs → xs[i]? = some x
  stop i H := ∃ xs : List V, SqB b K H a xs ∧ i = xs.length
def IsAtB (b : Bool) (h : Heap) (it a : Addr) (i : Nat) : Prop := match b with | true => h.IsTupleIter it a i | false => h.IsListIter it a i
def IsSeqB (b : Bool) (h : Heap) (a : Addr) (its : Array Value) : Prop := match b with | true => h.IsTuple a its | false => h.IsList a its
theorem IsAtB.obj {b : Bool} {h : Heap} {it a : Addr} {i : Nat} (q : IsAtB b h it a i) : ∃ o, h.get? it = some o ∧ ∀ v, o.data ≠ .cell v := by
  cases b with
  | true => obtain ⟨o, ho, hc, hd⟩ := (show h.IsTupleIter it a i from q); exact ⟨o, ho, fun v q => by rw [hd] at q; cases q⟩
  | false => obtain ⟨o, ho, hc, hd⟩ := (show h.IsListIter it a i from q); exact ⟨o, ho, fun v q => by rw [hd] at q; cases q⟩
theorem IsAtB.lt {b : Bool} {h : Heap} {it a : Addr} {i : Nat} (q : IsAtB b h it a i) : it < h.objs.size := by
  obtain ⟨o, ho, _⟩ := q.obj; exact Heap.lt_size ho
theorem IsAtB.at_ {b : Bool} {h h' : Heap} {it a : Addr} {i : Nat} (q : IsAtB b h it a i) (k : ∀ o, h.get? it = some o → h'.get? it = some o) : IsAtB b h' it a i := by
  cases b with
  | true => exact Heap.IsTupleIter.at (show h.IsTupleIter it a i from q) k
  | false => exact Heap.IsListIter.at (show h.IsListIter it a i from q) k
theorem drawsB {b : Bool} {prog : Program} {w : World} {A : Around} (hh : A.handled = none) (it t : Addr) (hne : t ≠ it) (items : Array Value) :
    Draws prog w A it [it, t] items.size (fun i v => items[i]? = some v) (fun i h => IsAtB b h it t i ∧ IsSeqB b h t items) := by
  cases b with
  | true => exact Draws.tuple hh it t hne items
  | false => exact Draws.list hh it t hne items
theorem invB {b : Bool} {X : Cx} {pins : List (Addr × Obj)} {σ : L2.St} {H : Hp} {s : Shared} {a : Addr} {xs : List V} (I : Inv X pins σ H s) (q : SqB b X.K H a xs) : ∃ its, Vals xs its ∧ IsSeqB b s.heap a its.toArray := by
  cases b with
  | true => obtain ⟨its, rv, p, hz⟩ := I.tuple q; exact ⟨its, rv, p⟩
  | false => obtain ⟨its, rv, p, hz⟩ := I.list q; exact ⟨its, rv, p.isList⟩
theorem injB {b : Bool} {X : Cx} {pins : List (Addr × Obj)} {σ : L2.St} {H : Hp} {s : Shared} {a : Addr} {xs ys : List V} (I : Inv X pins σ H s) (q : SqB b X.K H a xs) (q' : SqB b X.K H a ys) : xs = ys := by
  cases b with
  | true => exact I.tuple_inj q q'
  | false => exact I.list_inj q q'
/-- the turns -/
theorem turn_K {P : Program} {w : World} {K : PySem.W.Frag} {elts : List Expr} {kk : Nat} {tpos : Pos} (b : Bool) (k : Int) (a e it : Addr) :
    Turn P w K (.Tuple elts kk tpos) (ItK b K a k) [e, it] e
      (fun i h => (∃ old, IsEnum h e it (k + (i : Int)) old) ∧ IsAtB b h it a i ∧ e ≠ it ∧ a ≠ it ∧ a ≠ e) := by
  constructor
  case mem => exact List.mem_cons_self
  case obj =>
    rintro i h ⟨⟨old, he⟩, hi, _⟩ b hb
    simp only [List.mem_cons, List.not_mem_nil, or_false] at hb
    rcases hb with rfl | rfl
    · exact ⟨_, he, fun v q => nomatch q⟩
    · exact hi.obj
  case keep =>
    rintro i h h2 ⟨⟨old, he⟩, hi, hne⟩ k
    exact ⟨⟨old, k e (by simp) _ he⟩, hi.at_ fun o q => k it (by simp) o q, hne⟩
  case item =>
    intro X hP hw hK hc i pins s σ H E I hf st hg
    subst hP hw hK
    obtain ⟨⟨old, he⟩, hit, hne, hai, hae⟩ := st
    obtain ⟨xs, x, hq, hx⟩ := hg
    obtain ⟨its, rv, pt⟩ := invB I hq
    obtain ⟨u, hu, ru⟩ := rv.get hx
    have le : e < s.heap.objs.size := Heap.lt_size he
    have li : it < s.heap.objs.size := hit.lt
    have hu2 : its.toArray[i]? = some u := by simpa using hu
    have hlt : i < its.toArray.size := (Array.getElem?_eq_some_iff.mp hu2).1
    refine wpAny_pyNext_enum_itemC (drawsB (b := b) (by simp [I.ok.hd hc]) it a hai its.toArray) he ⟨hit, pt⟩ hlt hne (by simp [hne, Ne.symm hae])
      fun y h2 tk hy ho hst hT hsz hk => ?_
    obtain ⟨hit2, _⟩ := hst
    have hy' : its.toArray[i]? = some y := hy
    have ey : u = y := Option.some.inj (hu2.symm.trans hy')
    subst ey
    refine ⟨_, rfl, wpAny_letOwnedTupleGo_enum (s := { s with heap := h2, toks := tk + 1 }) ho fun h3 he3 sb => ?_⟩
    have hT3 := (sb.2 _ (Nat.ne_of_gt le)).trans hT
    have hall : ∀ b ∈ [e, it], b < s.heap.objs.size := by
      intro b hb
      simp only [List.mem_cons, List.not_mem_nil, or_false] at hb
      rcases hb with rfl | rfl
      · exact le
      · exact li
    have new : ObjOk X.prog X.w (upd H s.heap.objs.size (.tup [.int (k + (i : Int)), x])) h3 s.heap.objs.size (.tup [.int (k + (i : Int)), x]) := by
      refine ⟨by show 2 ≤ sizeLine; decide, [.int (k + (i : Int)) tk, u], ?_, _, hT3, rfl, _, rfl⟩
      exact .cons ⟨tk, rfl⟩ (.cons ru .nil)
    have hfree : H s.heap.objs.size = none := I.hok.fresh (Nat.le_refl _)
    have I3 : Inv X pins σ (upd H s.heap.objs.size (.tup [.int (k + (i : Int)), x])) { s with heap := h3, toks := tk + 1 } := by
      refine I.turnedNew (ch := [e, it]) (fun b ob hb q => ?_) hf (Nat.le_refl _) new
      have n1 : b ≠ e := fun z => hb (by simp [z])
      have n2 : b ≠ it := fun z => hb (by simp [z])
      exact (sb.2 b n1).trans (hk b ob n1 n2 q)
    refine ⟨.ref s.heap.objs.size, _, I3, rfl, ⟨_, x, rfl, hfree, rfl, fun ys hy => ?_⟩, ⟨⟨u, ?_⟩, hit2.at_ fun o q => (sb.2 it (Ne.symm hne)).trans q, hne, hai, hae⟩, fun b hb => ?_⟩
    · rw [injB I hy hq]; exact hx
    · have cast1 : k + ((i + 1 : Nat) : Int) = k + (i : Int) + 1 := by omega
      rw [cast1]; exact he3
    · rw [upd_ne (Nat.ne_of_lt (hall b hb))]
      exact (hf b hb).1
  case done =>
    intro X hP hw hK hc i pins s σ H E I hf st hg
    subst hP hw hK
    obtain ⟨⟨old, he⟩, hit, hne, hai, hae⟩ := st
    obtain ⟨xs, hq, hx⟩ := hg
    obtain ⟨its, rv, pt⟩ := invB I hq
    obtain ⟨f0, f1, f2, f3, f4, f5⟩ := hf it (by simp)
    have hl : i = its.toArray.size := by rw [hx, rv.length, List.size_toArray]
    subst hl
    refine wpAny_pyNext_enum_endD (drawsB (b := b) (by simp [I.ok.hd hc]) it a hai its.toArray) he ⟨hit, pt⟩ fun h2 eb => ⟨rfl, ?_⟩
    exact I.turned (t' := s.toks) (fun b o hb q => eb b o hb q) f0 f1 f3 f4 f5
  case self =>
    rintro A i s Q E ⟨⟨old, he⟩, _⟩ h
    exact wpAny_pyIter_enum he h
def iEnumK (b : Bool) (K : PySem.W.Frag) (ta tk : TA) : TI := fun σ H R => ta σ H fun vs H1 => tk σ H1 fun zs H2 => ∃ a xs k, vs = [.ref a] ∧ zs = [.int k] ∧ -(2 ^ 62) ≤ k ∧ k ≤ 2 ^ 62 ∧ SqB b K H2 a xs ∧ R (ItK b K a k) H2
def begB (b : Bool) (a : Addr) : Obj := match b with | true => { cls := .type "tuple_iterator", data := .fields #[.ref a, .int 0 0] } | false => { cls := .type "list_iterator", data := .fields #[.ref a, .int 0 0] }
theorem beginsB (b : Bool) (a : Addr) (its : Array Value) : Begins (.ref a) (begB b a) fun h => IsSeqB b h a its := by
  cases b with
  | true => exact begins_tuple a its
  | false => exact begins_list a its
theorem atB (b : Bool) {h : Heap} {it a : Addr} (e : h.get? it = some (begB b a)) : IsAtB b h it a 0 := by
  cases b with
  | true => exact ⟨_, e, rfl, rfl⟩
  | false => exact ⟨_, e, rfl, rfl⟩
theorem ltB {b : Bool} {h : Heap} {a : Addr} {its : Array Value} (e : IsSeqB b h a its) : a < h.objs.size := by
  cases b with
  | true => obtain ⟨o, ho, _⟩ := (show h.IsTuple a its from e); exact Heap.lt_size ho
  | false => obtain ⟨_, e', _⟩ := (show h.IsList a its from e); exact Heap.lt_size e'
theorem pi_enumK {X : Cx} {e : Expr} {ta tk : TA} {p pos tpos : Pos} {elts : List Expr} {kk : Nat} {kws : List Keyword} (b : Bool) (hg : Gl X "enumerate") (hm : X.mg "enumerate" = none) (ha : PA X [e] ta) (hk : PK X kws tk)
    (hs : starEach [e] X.env = [(false, eval e X.env)] := by rfl)
    (hall : (backToKw pos (keywordEach kws X.env)).all (·.1.isSome) = true := by rfl) (hks : (backToKw pos (keywordEach kws X.env)).filterMap (·.1) = [Str.ofString "start"] := by rfl)
    (hpl : ((backTo pos (starEach [e] X.env)).any (·.1) || (backToKw pos (keywordEach kws X.env)).any (·.1.isNone)) = false := by rfl) :
    PI X (.Tuple elts kk tpos) (.Call (.Name "enumerate" p) [e] kws pos) (iEnumK b X.K ta tk) := by
  constructor
  intro pins s σ H R I h
  refine wpAny_Call_Name_kw (ld_blt I hg hm boot_enumerate ?_)
  refine PySem.W.callWith_of (P := fun _ => True) hpl (fun h _ => ⟨.machine, .inr (.inl rfl), PySem.W.Looks.of_pure rfl⟩) (evalArgs_kw2 hall ?_ hs)
  refine thn (ha.run pos pins s σ H _ I h) fun us s1 ⟨vs, H1, I1, r1, q1⟩ => ?_
  refine thn (hk.run pos pins s1 σ H1 _ I1 q1) fun ws s2 ⟨zs, H2, I2, r2, q2⟩ => ?_
  refine ⟨trivial, ?_⟩
  rw [hks]
  obtain ⟨a, xs, k, rfl, rfl, k0, k1, hq, q⟩ := q2
  obtain rfl := Vals.ref1 r1
  obtain ⟨w1, rfl, t, rfl⟩ : ∃ w1, ws = [w1] ∧ ∃ t, w1 = Value.int k t := by
    cases r2 with
    | cons r rr => cases rr; exact ⟨_, rfl, r⟩
  obtain ⟨its, rv, pt⟩ := invB I2 hq
  have la : a < s2.heap.objs.size := ltB pt
  refine enum_begins_start (beginsB b a its.toArray) pt (by omega) (by omega) fun h2 he hit hsz hk => wpAny_pyIter_enum he ?_
  have I3 : Inv X pins σ H2 { s2 with heap := h2 } := I2.kept (t' := s2.toks) hk
  refine ⟨s2.heap.objs.size + 1, [s2.heap.objs.size + 1, s2.heap.objs.size], _, _, H2, rfl, I3, turn_K b k a (s2.heap.objs.size + 1) s2.heap.objs.size,
    ⟨⟨.none, ?_⟩, atB b hit, Nat.succ_ne_self _, Nat.ne_of_lt la, Nat.ne_of_lt (Nat.lt_succ_of_lt la)⟩, fun b hb => ?_, q⟩
  · have e0 : k + ((0 : Nat) : Int) = k := by omega
    rw [e0]; exact he
  have hle : s2.heap.objs.size ≤ b := by
    simp only [List.mem_cons, List.not_mem_nil, or_false] at hb
    rcases hb with rfl | rfl
    · exact Nat.le_succ _
    · exact Nat.le_refl _
  exact I2.fpOk hle (I2.hok.fresh hle)
end Zr
end
section
set_option Elab.async false
set_option linter.all false
set_option maxRecDepth 100000
/-! defs with a default, enumerate with a start. -/
namespace Zq
open PySem PySem.Spec PyProof.Rows L2
open Rep (rep)
theorem okD {P : Program} {w : World} {K : PySem.W.Frag} {mg : Str → Option Value} {base : Heap} {x qual : Str} {st : Stmt} {dvs : List V} {kws : List (Str × V)} {f : Addr} {fd : FuncData} {N ps : List Str} {k : Nat} {sp : Sp} (F : FunD K x qual (defArgs st) (defBody st) (defScope st) dvs kws f fd) (S : FnScope N ps (defScope st)) (len : ∀ vs H Q E, sp vs H Q E → vs.length = ps.length)
    (hbody : ∀ (cdv : Value) (A : Around) (outer : List Env) (s : Shared) (H : Hp) (vs : List V) (Q : VK) (E : XK), Room k (A.deeper (envOfC qual (defScope st) s.heap.objs.size f cdv)) → sp vs H Q E →
      ∃ t, PSs (cxOf CX0 P w K mg base N qual (defScope st) f cdv A outer s H E).nox (defBody st) t ∧ t { nx := fun _ H' => Q .non H', rt := Q } (start N vs) H) : FnOk P w K mg base CX0 (k + 1) f fd ps sp :=
  F.ok S len fun cdv A outer s H vs Q E hr hsp => by
    obtain ⟨t, h, q⟩ := hbody cdv A outer s H vs Q E hr hsp
    exact ⟨t, h.nox, q⟩
section
variable {c : Cc} {env : Env'} {M : Mem} {α : Type} [Rep α] {te : TE} {k : Nat} {P : Dy → Mem → Prop} {Q : List Dy → Mem → Prop}
theorem RepDs.snoc {F : Hp} {as : List Addr} {v : V} {x : Dy} (h : x.h c F as v) : ∀ {vs : List V} {ds : List Dy}, RepDs c F as vs ds → RepDs c F as (vs ++ [v]) (ds ++ [x])
  | _, _, .nil => .cons h .nil
  | _, _ :: _, .cons r t => .cons r (RepDs.snoc h t)
/-- a call, an int default filled in -/
theorem we_callD {n : Nat} {S : ASp} {E : XK} {t : TA} {i : Int} (h : WA c t env M fun ds M1 => (ds ++ [dy i]).length = n ∧ k ≤ M1.length ∧ okDs k (ds ++ [dy i]) ∧ okM k (M1.take k) ∧ S (ds ++ [dy i]) (M1.take k) fun x M' => P x (M' ++ M1.drop k)) : WE c (tCall (spOf c n k S) [.int i] E t) env M P := by
  have e : tCall (spOf c n k S) [.int i] E t = tCall (spOf c n k S) [] E (fun σ H R => t σ H fun vs H1 => R (vs ++ [.int i]) H1) := by
    funext σ H Q
    unfold tCall
    simp only [List.append_nil]
  rw [e]
  refine we_call (n := n) (S := S) (fun as σ w R s q => ?_)
  refine h as σ w _ s fun vs as1 w1 ds m st mm r p => ?_
  exact q (vs ++ [.int i]) as1 w1 (ds ++ [dy i]) m st mm (RepDs.snoc (x := dy i) rfl r) p
/-- each with its number from k on -/
def numsF {δ : Type} (k : Int) (xs : List δ) : List (Int × δ) := (nums xs).map fun q => (k + q.1, q.2)
theorem numsF0 {δ : Type} (xs : List δ) : numsF 0 xs = nums xs := by
  unfold numsF
  rw [List.map_congr_left (g := id) (fun q _ => by show ((0 : Int) + q.1, q.2) = q; rw [Int.zero_add]), List.map_id]
theorem enum_stepK {as : List Addr} {w : Hw} {j : Int} {v v' : V} {H2 : Hp} {T : Addr} {x : α} (m : MemOk c as w M) (hT : w.H T = none) (e : H2 = upd w.H T (.tup [.int j, v'])) (hv : v = .ref T) (hr : rep c w.F as v' x) :
    ∃ F2, Step as w as ⟨F2, H2⟩ ∧ MemOk c as ⟨F2, H2⟩ M ∧ (dy (j, x)).h c F2 as v := by
  subst e hv
  obtain ⟨F, H⟩ := w
  obtain ⟨st, m'⟩ := MemOk.new (o := .tup [.int j, v']) m hT
  exact ⟨_, st, m', T, .int j, v', rfl, sqt_of upd_same, rfl, Rep.mono (x := x) st.ex st.pre hr⟩
theorem walks_enumK {b : Bool} {as : List Addr} {w : Hw} {a : Addr} {k : Int} {vs : List V} {xs : List α} (hs : ∀ {H : Hp}, Ex w.F H → Zr.SqB b c.K H a vs) (hr : RepL c w.F as vs xs) : Walks c (Zr.ItK b c.K a k) as w ((numsF k xs).map dy) := by
  have hl : ((numsF k xs).map (dy (α := Int × α))).length = xs.length := by unfold numsF; rw [List.length_map, List.length_map, nums_len]
  refine ⟨fun i as' w' M' st m h => ?_, fun i as' w' M' st m h => ?_, fun i as' w' x v H2 M' st m h hy => ?_⟩
  · rw [hl, ← hr.length] at h
    exact ⟨vs, vs[i], hs (st.ex.trans m.ex), List.getElem?_eq_getElem h⟩
  · rw [hl, ← hr.length] at h
    exact ⟨vs, hs (st.ex.trans m.ex), h⟩
  · obtain ⟨T, v', hv, hT, hH, hy⟩ := hy
    have hv' := hy vs (hs (st.ex.trans m.ex))
    obtain ⟨y, h1, h2⟩ := hr.getV hv'
    unfold numsF at h
    rw [List.getElem?_map, List.getElem?_map, nums_get h1] at h
    cases h
    exact enum_stepK m hT hH hv (Rep.mono (x := y) st.ex st.pre h2)
theorem wi_enumTK {ta tk : TA} (h : WA c ta env M fun ds m => ∃ xs : Tp α, ds = [dy xs] ∧ WA c tk env m fun zs m2 => ∃ i : Int, zs = [dy i] ∧ -(2 ^ 62) ≤ i ∧ i ≤ 2 ^ 62 ∧ Q ((numsF i xs.l).map dy) m2) : WI c (Zr.iEnumK true c.K ta tk) env M Q := fun as σ w R s q =>
  h as σ w _ s fun vs as1 w1 ds m st mm r p => by
    obtain ⟨xs, rfl, p⟩ := p
    obtain ⟨v, rfl, a, ws, rfl, hs, hr⟩ := r.one
    refine p as1 σ w1 _ (s.step st mm) fun us as2 w2 zs m2 st2 mm2 r2 p2 => ?_
    obtain ⟨i, rfl, i0, i1, p2⟩ := p2
    obtain ⟨u, rfl, ru⟩ := r2.one
    obtain rfl : u = .int i := ru
    have hs2 : SqT c.K w2.F a ws := sqT_mono st2.ex hs
    exact ⟨a, ws, i, rfl, rfl, i0, i1, sqT_mono mm2.ex hs2, q _ as2 w2 _ m2 (st.trans st2) mm2 (walks_enumK (b := true) (fun e => sqT_mono e hs2) (hr.mono st2.ex st2.pre)) p2⟩
theorem wi_enumLK {ta tk : TA} (h : WA c ta env M fun ds m => ∃ xs : List α, ds = [dy xs] ∧ WA c tk env m fun zs m2 => ∃ i : Int, zs = [dy i] ∧ -(2 ^ 62) ≤ i ∧ i ≤ 2 ^ 62 ∧ Q ((numsF i xs).map dy) m2) : WI c (Zr.iEnumK false c.K ta tk) env M Q := fun as σ w R s q =>
  h as σ w _ s fun vs as1 w1 ds m st mm r p => by
    obtain ⟨xs, rfl, p⟩ := p
    obtain ⟨v, rfl, a, ws, rfl, hs, hr⟩ := r.one
    refine p as1 σ w1 _ (s.step st mm) fun us as2 w2 zs m2 st2 mm2 r2 p2 => ?_
    obtain ⟨i, rfl, i0, i1, p2⟩ := p2
    obtain ⟨u, rfl, ru⟩ := r2.one
    obtain rfl : u = .int i := ru
    have hs2 : SqL c.K w2.F a ws := sqL_mono st2.ex hs
    exact ⟨a, ws, i, rfl, rfl, i0, i1, sqL_mono mm2.ex hs2, q _ as2 w2 _ m2 (st.trans st2) mm2 (walks_enumK (b := false) (fun e => sqL_mono e hs2) (hr.mono st2.ex st2.pre)) p2⟩
end
end Zq
end
section
set_option Elab.async false
set_option linter.all false
set_option maxRecDepth 100000
/-! Cells handed out at a def's end; lists of new lists. -/
namespace Zq
open PySem PySem.Spec PyProof.Rows L2
open Rep (rep)
/-- what d is when the cells from k on do not change any more -/
def Melt (k : Nat) (m : Mem) (d z : Dy) : Prop := ∀ (c : Cc) (F : Hp) (as : List Addr) (v : V), (∀ (j : Nat) (e : Cell), k ≤ j → m[j]? = some e → ∃ a o, as[j]? = some a ∧ F a = some o ∧ e.h c F as o) → d.h c F as v → z.h c F (as.take k) v
section
variable {c : Cc} {env : Env'} {M : Mem} {α β γ δ : Type} [Rep α] [Rep β] [Rep γ] [Rep δ] [Free α] [Free β] [Free γ] [Free δ] {ta tb te : TE} {P : Dy → Mem → Prop} {k : Nat} {nx : Env' → Mem → Prop} {rt : Dy → Mem → Prop}
theorem melt_l {F : Hp} {as : List Addr} {m : Mem} {j : Nat} {xs : List α} {v : V} (h : ∀ (j : Nat) (e : Cell), k ≤ j → m[j]? = some e → ∃ a o, as[j]? = some a ∧ F a = some o ∧ e.h c F as o) (hk : k ≤ j) (hm : m[j]? = some (cLst xs)) (r : rep c F as v (MR.mk j)) : rep c F (as.take k) v xs := by
  obtain ⟨a, o, h1, h2, vs, rfl, h3⟩ := h j _ hk hm
  obtain ⟨a', h1', rfl⟩ := r
  rw [h1] at h1'; cases h1'
  exact ⟨a, vs, rfl, sql_of h2, RepL.cut (Free.l k xs) h3⟩
theorem melt_list {m : Mem} {j : Nat} {xs : List α} (hk : k ≤ j) (hm : m[j]? = some (cLst xs)) : Melt k m (dy (MR.mk j)) (dy xs) := fun c F as v h r => melt_l (xs := xs) h hk hm r
theorem melt_3 {m : Mem} {i j l : Nat} {xs : List α} {ys : List β} {zs : List γ} (h1 : k ≤ i ∧ m[i]? = some (cLst xs)) (h2 : k ≤ j ∧ m[j]? = some (cLst ys)) (h3 : k ≤ l ∧ m[l]? = some (cLst zs)) : Melt k m (dy (T3.mk (MR.mk i) (MR.mk j) (MR.mk l))) (dy (T3.mk xs ys zs)) := fun c F as v h r => by
  obtain ⟨a, v1, v2, v3, rfl, hs, r1, r2, r3⟩ := r
  exact ⟨a, v1, v2, v3, rfl, hs, melt_l (xs := xs) h h1.1 h1.2 r1, melt_l (xs := ys) h h2.1 h2.2 r2, melt_l (xs := zs) h h3.1 h3.2 r3⟩
/-- a list of lists -/
theorem melt_ll {m : Mem} {j : Nat} {ms : List MR} {xs : List (List α)} (hk : k ≤ j) (hm : m[j]? = some (cLst ms)) (hp : Paired (fun (r : MR) (x : List α) => k ≤ r.k ∧ m[r.k]? = some (cLst x)) ms xs) : Melt k m (dy (MR.mk j)) (dy xs) := fun c F as v h r => by
  obtain ⟨a, o, h1, h2, vs, rfl, h3⟩ := h j _ hk hm
  obtain ⟨a', h1', rfl⟩ := r
  rw [h1] at h1'; cases h1'
  refine ⟨a, vs, rfl, sql_of h2, ?_⟩
  have key : ∀ {ms : List MR} {xs : List (List α)} {vs : List V}, Paired (fun (r : MR) (x : List α) => k ≤ r.k ∧ m[r.k]? = some (cLst x)) ms xs → RepL c F as vs ms → RepL c F (as.take k) vs xs := by
    intro ms xs vs hp
    induction hp generalizing vs with
    | nil => intro q; cases q; exact .nil
    | cons g t ih =>
      intro q
      cases q with
      | cons q1 q2 => exact .cons (melt_l h g.1 g.2 q1) (ih q2)
  exact key hp h3
/-- what a def hands out, its own cells with it -/
theorem ws_retF (h : WE c te env M fun d m => ∃ z, Melt k m d z ∧ okM k (m.take k) ∧ rt z (m.take k)) : WS c k (tRet te) env M nx rt := fun as σ H D s q1 q2 =>
  h as σ H _ s fun v as1 H1 d m1 st1 mm1 r1 p1 => by
    obtain ⟨z, hz, hok2, p⟩ := p1
    let F' : Hp := fun a => if a ∈ as1.drop k then H1.H a else H1.F a
    have hd : ∀ a, a ∈ as1.drop k → H1.F a = none := fun a ha => mm1.dis a (List.mem_of_mem_drop ha)
    have ex : Ex H1.F F' := fun a u ha => by
      show (if a ∈ as1.drop k then H1.H a else H1.F a) = some u
      by_cases e : a ∈ as1.drop k
      · rw [hd a e] at ha; cases ha
      · rw [if_neg e]; exact ha
    have exH : Ex F' H1.H := fun a u ha => by
      have ha' : (if a ∈ as1.drop k then H1.H a else H1.F a) = some u := ha
      by_cases e : a ∈ as1.drop k
      · rw [if_pos e] at ha'; exact ha'
      · rw [if_neg e] at ha'; exact mm1.ex a u ha'
    have spl : as1.take k ++ as1.drop k = as1 := List.take_append_drop k as1
    have nd := mm1.nd
    rw [← spl, List.nodup_append] at nd
    have hnot : ∀ a, a ∈ as1.take k → a ∉ as1.drop k := fun a ha z => nd.2.2 a ha a z rfl
    have mk := mm1.take k hok2
    refine q2 v as1 ⟨F', H1.H⟩ z _ (st1.trans ⟨List.prefix_refl _, ex, fun b h h' => ?_, fun b h h' => absurd h h', fun b u h _ => h, fun b h => h⟩) ⟨mk.nd, mk.len, exH, fun b h => ?_, fun j d q => ?_⟩ (hz c F' as1 v (fun j e hj he => ?_) (d.mono ex (List.prefix_refl _) r1)) p
    · have h2 : (if b ∈ as1.drop k then H1.H b else H1.F b) ≠ none := h'
      by_cases e : b ∈ as1.drop k
      · exact .inr (List.mem_of_mem_drop e)
      · rw [if_neg e] at h2; exact absurd h h2
    · show (if b ∈ as1.drop k then H1.H b else H1.F b) = none
      rw [if_neg (hnot b h)]; exact mk.dis b h
    · obtain ⟨b, o', h1, h2, h3⟩ := mk.at_ j d q
      exact ⟨b, o', h1, h2, d.mono ex (List.prefix_refl _) h3⟩
    · obtain ⟨a, o, h1, h2, h3⟩ := mm1.at_ j e he
      have ha : a ∈ as1.drop k := List.mem_of_getElem? (i := j - k) (by
        rw [List.getElem?_drop]
        have : k + (j - k) = j := by omega
        rw [this]; exact h1)
      refine ⟨a, o, h1, ?_, e.mono ex (List.prefix_refl _) h3⟩
      show (if a ∈ as1.drop k then H1.H a else H1.F a) = some o
      rw [if_pos ha]; exact h2
/-! ### a comprehension whose list will change -/
theorem we_lcMC {wi : TI} {g : TG} {vs : List Nat} (ts : List Nat) (f : β → γ) (hts : ∀ t ∈ ts, t ∈ vs)
    (h : WI c wi env M fun ds M1 => M1 = M ∧ ∃ xs : List β, ds = xs.map dy ∧ xs.length ≤ 100000 ∧
      (∀ y, y ∈ xs → ∀ acc : List γ, WG c ts g (dy y) (wipeE env vs) (M ++ [cLst acc]) fun e m => m = M ++ [cLst acc] ∧ WE c te e m fun z m2 => z = dy (f y) ∧ m2 = M ++ [cLst acc]) ∧
      P (dy (MR.mk M.length)) (M ++ [cLst (xs.map f)])) : WE c (tLc wi g tYes te vs) env M P := by
  refine we_lcC (β := β) (γ := γ) (S := Unit) (ts := ts) (fun pre _ acc => acc = pre.map f) (fun _ => M) hts fun as σ w R s q => h as σ w R s fun J as' w' ds M1 st mm wk hp => q J as' w' ds M1 st mm wk ?_
  obtain ⟨rfl, xs, rfl, hl, turn, fin⟩ := hp
  refine ⟨xs, rfl, (), rfl, rfl, fun pre y post s acc e I => ⟨rfl, fun as σ w v N s' r q => turn y (by rw [e]; simp) acc as σ w v N s' r fun e' M' as' σ' w' st sta wp hp => q e' M' as' σ' w' st sta wp (wt_yes ?_)⟩, fun s acc I => ⟨rfl, by rw [I]; exact fin⟩⟩
  obtain ⟨rfl, hw⟩ := hp
  refine ⟨fun _ => WE.mono hw fun z m2 hz => ?_, fun b0 => absurd b0 (by decide)⟩
  obtain ⟨rfl, rfl⟩ := hz
  subst I
  refine ⟨f y, rfl, ?_, (), ?_, rfl⟩
  · rw [List.length_map]
    have h2 : pre.length < xs.length := by rw [e]; simp
    omega
  · show _ = List.map f (pre ++ [y])
    rw [List.map_append]; rfl
theorem we_lcFC {wi : TI} {g : TG} {tt : TT} {vs : List Nat} (ts : List Nat) (f : β → γ) (p : β → Bool) (hts : ∀ t ∈ ts, t ∈ vs)
    (h : WI c wi env M fun ds M1 => M1 = M ∧ ∃ xs : List β, ds = xs.map dy ∧ xs.length ≤ 100000 ∧
      (∀ y, y ∈ xs → ∀ acc : List γ, WG c ts g (dy y) (wipeE env vs) (M ++ [cLst acc]) fun e m => WT c tt e m fun b m1 => m1 = M ++ [cLst acc] ∧ b = p y ∧ (b = true → WE c te e (M ++ [cLst acc]) fun z m2 => z = dy (f y) ∧ m2 = M ++ [cLst acc])) ∧
      P (dy (MR.mk M.length)) (M ++ [cLst ((xs.filter p).map f)])) : WE c (tLc wi g tt te vs) env M P := by
  refine we_lcC (β := β) (γ := γ) (S := Unit) (ts := ts) (fun pre _ acc => acc = (pre.filter p).map f) (fun _ => M) hts fun as σ w R s q => h as σ w R s fun J as' w' ds M1 st mm wk hp => q J as' w' ds M1 st mm wk ?_
  obtain ⟨rfl, xs, rfl, hl, turn, fin⟩ := hp
  refine ⟨xs, rfl, (), rfl, rfl, fun pre y post s acc e I => ⟨rfl, fun as σ w v N s' r q => turn y (by rw [e]; simp) acc as σ w v N s' r fun e' M' as' σ' w' st sta wp hp => q e' M' as' σ' w' st sta wp (WT.mono hp fun b m1 hb => ?_)⟩, fun s acc I => ⟨rfl, by rw [I]; exact fin⟩⟩
  obtain ⟨rfl, hb, hw⟩ := hb
  subst I
  refine ⟨fun b1 => ?_, fun b0 => ⟨(), ?_, rfl⟩⟩
  · subst b1
    refine WE.mono (hw rfl) fun z m2 hz => ?_
    obtain ⟨rfl, rfl⟩ := hz
    refine ⟨f y, rfl, ?_, (), ?_, rfl⟩
    · rw [List.length_map]
      have h1 := List.length_filter_le p pre
      have h2 : pre.length < xs.length := by rw [e]; simp
      omega
    · show _ = List.map f (List.filter p (pre ++ [y]))
      rw [List.filter_append, List.map_append, List.filter_cons, ← hb, if_pos rfl] <;> rfl
  · subst b0
    show _ = List.map f (List.filter p (pre ++ [y]))
    rw [List.filter_append, List.filter_cons, ← hb, if_neg Bool.false_ne_true, List.filter_nil, List.append_nil]
theorem ws_seqJ {t u : TS} (J : Env' → Mem → Prop) (h1 : WS c k t env M J rt) (h2 : ∀ e m, J e m → WS c k u e m nx rt) : WS c k (tSeq t u) env M nx rt := ws_seq (WS.mono h1 h2 fun _ _ h => h)
/-! ### a list of new lists -/
def mrs (b n : Nat) : List MR := (List.range n).map fun i => MR.mk (b + 1 + i)
theorem mrs_snoc (b n : Nat) : mrs b (n + 1) = mrs b n ++ [MR.mk (b + 1 + n)] := by
  unfold mrs; rw [List.range_succ, List.map_append]; rfl
theorem mrs_len (b n : Nat) : (mrs b n).length = n := by simp [mrs]
theorem mrs_get {b n i : Nat} (h : i < n) : (mrs b n)[i]? = some (MR.mk (b + 1 + i)) := by
  unfold mrs; rw [List.getElem?_map, List.getElem?_range h] <;> rfl
theorem we_lcN {wi : TI} {g : TG} {vs : List Nat} (ts : List Nat) (f : β → List γ) (hts : ∀ t ∈ ts, t ∈ vs)
    (h : WI c wi env M fun ds M1 => M1 = M ∧ ∃ xs : List β, ds = xs.map dy ∧ xs.length ≤ 100000 ∧
      (∀ y, y ∈ xs → ∀ N : Mem, WG c ts g (dy y) (wipeE env vs) N fun e m => WE c te e m fun d m2 => d = dy (MR.mk N.length) ∧ m2 = N ++ [cLst (f y)]) ∧
      P (dy (MR.mk M.length)) (M ++ [cLst (mrs M.length xs.length)] ++ xs.map fun y => cLst (f y))) : WE c (tLc wi g tYes te vs) env M P := fun as σ w Q s q =>
  h as σ w _ s fun J as1 w1 ds M1 st1 mm1 wk p1 D hD => by
    obtain ⟨rfl, xs, rfl, hl, turn, fin⟩ := p1
    have hml : (xs.map (dy (α := β))).length = xs.length := List.length_map _
    have sa := s.step st1 mm1
    obtain ⟨stD, mmD⟩ := MemOk.newCell (d := cLst ([] : List MR)) (o := .lst []) mm1 hD ⟨[], rfl, .nil⟩
    have hn : as1.length = M1.length := mm1.len.symm
    refine ⟨fun i m H' => m = xs.length - i ∧ i ≤ xs.length ∧ ∃ F' as', Step (as1 ++ [D]) ⟨w1.F, upd w1.H D (.lst [])⟩ as' ⟨F', H'⟩ ∧ MemOk c as' ⟨F', H'⟩ (M1 ++ [cLst (mrs M1.length i)] ++ (xs.take i).map fun y => cLst (f y)), ⟨xs.length, by simp, Nat.zero_le _, w1.F, as1 ++ [D], .refl _ _, by simpa [mrs] using mmD⟩, ?_⟩
    rintro i m H' ⟨rfl, hi, F', as', st, hM⟩
    have stJ : Step as1 w1 as' ⟨F', H'⟩ := stD.trans st
    have posD : ∀ {as2 : List Addr}, (as1 ++ [D]) <+: as2 → as2[M1.length]? = some D := by
      rintro as2 ⟨t, rfl⟩
      rw [← hn, List.append_assoc, List.getElem?_append_right (Nat.le_refl _), Nat.sub_self]; rfl
    by_cases hlt : i < xs.length
    · refine .inr ⟨wk.go i _ _ _ stJ hM (by rw [hml]; exact hlt), fun H2 => ∃ F2 as2, Step (as1 ++ [D]) ⟨w1.F, upd w1.H D (.lst [])⟩ as2 ⟨F2, H2⟩ ∧ MemOk c as2 ⟨F2, H2⟩ (M1 ++ [cLst (mrs M1.length (i + 1))] ++ (xs.take (i + 1)).map fun y => cLst (f y)), fun H2 ⟨F2, as2, a1, a4⟩ => ⟨xs.length - (i + 1), by omega, rfl, hlt, F2, as2, a1, a4⟩, fun v H2 hy => ?_⟩
      have hx : xs[i]? = some xs[i] := List.getElem?_eq_getElem hlt
      obtain ⟨F2, st2, mm2, rv⟩ := wk.yld i _ _ (dy xs[i]) v H2 _ stJ hM (by rw [List.getElem?_map, hx] <;> rfl) hy
      have hS2 : Sta c (wipeE env vs) _ as' (wipe σ vs) ⟨F2, H2⟩ := ⟨(sa.sl.step (stJ.trans st2)).wipe vs, mm2⟩
      refine turn xs[i] (List.getElem_mem hlt) _ as' (wipe σ vs) ⟨F2, H2⟩ v _ hS2 rv fun e3 m3 as3 σ3 w3 st3 s3 z3 p3 => ?_
      refine ⟨(z3 vs hts).trans (wipe_idem vs fun t ht y q => wipe_none ht y q), ?_⟩
      refine wt_yes (c := c) (env := e3) (M := m3) (B := fun b m => b = true ∧ m = m3) ⟨rfl, rfl⟩ as3 σ3 w3 _ s3 fun b as4 w4 m4 st4 mm4 p4 => ?_
      obtain ⟨rfl, rfl⟩ := p4
      rw [if_pos rfl]
      refine p3 as4 σ3 w4 _ (s3.step st4 mm4) fun v5 as5 w5 z m5 st5 mm5 r5 p5 => ?_
      obtain ⟨rfl, rfl⟩ := p5
      have stB : Step (as1 ++ [D]) ⟨w1.F, upd w1.H D (.lst [])⟩ as5 w5 := ((((st.trans st2).trans st3).trans st4).trans st5)
      have hkD := posD stB.pre
      have hat : ∀ (X : Mem), (M1 ++ [cLst (mrs M1.length i)] ++ X)[M1.length]? = some (cLst (mrs M1.length i)) := fun X => by
        rw [List.append_assoc, List.getElem?_append_right (Nat.le_refl _), Nat.sub_self]; rfl
      obtain ⟨a, o, ha, ho, ws, rfl, hr⟩ := mm5.at_ M1.length (cLst (mrs M1.length i)) (by rw [List.append_assoc]; exact hat _)
      rw [hkD] at ha; cases ha
      have hwl := hr.length
      rw [mrs_len] at hwl
      refine ⟨ws, ho, Nat.lt_of_lt_of_le (by omega : ws.length < 100000) (by decide : 100000 ≤ sizeLine), ?_⟩
      have hN : (M1 ++ [cLst (mrs M1.length i)] ++ (xs.take i).map fun y => cLst (f y)).length = M1.length + 1 + i := by
        simp only [List.length_append, List.length_cons, List.length_nil, List.length_map, List.length_take]; omega
      rw [hN] at r5
      obtain ⟨stP, mmP⟩ := MemOk.put (d := cLst (mrs M1.length (i + 1))) (o := .lst (ws ++ [v5])) mm5 hkD ⟨_, rfl, by rw [mrs_snoc]; exact hr.append (.cons r5 .nil)⟩
      have e9 : ((M1 ++ [cLst (mrs M1.length i)] ++ (xs.take i).map fun y => cLst (f y)) ++ [cLst (f xs[i])]).set M1.length (cLst (mrs M1.length (i + 1))) = M1 ++ [cLst (mrs M1.length (i + 1))] ++ (xs.take (i + 1)).map fun y => cLst (f y) := by
        rw [List.append_assoc, List.append_assoc, List.set_append_right _ _ (Nat.le_refl _), Nat.sub_self, List.take_add_one, hx, List.map_append, List.append_assoc]
        rfl
      rw [e9] at mmP
      exact ⟨w5.F, as5, stB.trans stP, mmP⟩
    · have e : i = xs.length := by omega
      subst e
      rw [List.take_length] at hM
      refine .inl ⟨wk.stop _ _ _ _ stJ hM hml.symm, q (.ref D) as' ⟨F', H'⟩ (dy (MR.mk M1.length)) _ (st1.trans stJ) hM ⟨D, posD st.pre, rfl⟩ fin⟩
end
end Zq
end
section
set_option Elab.async false
set_option linter.all false
set_option maxRecDepth 100000
/-! Small change for the drawing hand. -/
namespace Zq
open PySem PySem.Spec PyProof.Rows L2
open Rep (rep)
theorem hh0 {M : Mem} {X : Prop} (h : X) : (MR.mk 0).k = 0 ∧ M = M ∧ X := ⟨rfl, rfl, h⟩
theorem hh1 {M : Mem} {X Y Z W : Prop} (h : X) : M = M ∧ (((1 : Int) = 1 ∧ X) ∨ ((1 : Int) = 2 ∧ Y) ∨ ((1 : Int) = 3 ∧ Z) ∨ ((1 : Int) = 4 ∧ W)) := ⟨rfl, .inl ⟨rfl, h⟩⟩
theorem hh2 {M : Mem} {X Y Z W : Prop} (h : Y) : M = M ∧ (((2 : Int) = 1 ∧ X) ∨ ((2 : Int) = 2 ∧ Y) ∨ ((2 : Int) = 3 ∧ Z) ∨ ((2 : Int) = 4 ∧ W)) := ⟨rfl, .inr (.inl ⟨rfl, h⟩)⟩
theorem hh3 {M : Mem} {X Y Z W : Prop} (h : Z) : M = M ∧ (((3 : Int) = 1 ∧ X) ∨ ((3 : Int) = 2 ∧ Y) ∨ ((3 : Int) = 3 ∧ Z) ∨ ((3 : Int) = 4 ∧ W)) := ⟨rfl, .inr (.inr (.inl ⟨rfl, h⟩))⟩
theorem hh4 {M : Mem} {X Y Z W : Prop} (h : W) : M = M ∧ (((4 : Int) = 1 ∧ X) ∨ ((4 : Int) = 2 ∧ Y) ∨ ((4 : Int) = 3 ∧ Z) ∨ ((4 : Int) = 4 ∧ W)) := ⟨rfl, .inr (.inr (.inr ⟨rfl, h⟩))⟩
section
variable {c : Cc} {env : Env'} {M : Mem} {P : Dy → Mem → Prop} {ta tb te : TE}
theorem rr_mulR {x y : Int} (p : P (dy (x * y)) M) (h : -(2 ^ 64) < y ∧ y < 2 ^ 64) : RR c (rI CMul fun i j => .int (i * j)) (dy x) (dy y) M P := rr_IC (.inr h) p
theorem rr_mulL {x y : Int} (p : P (dy (x * y)) M) (h : -(2 ^ 64) < x ∧ x < 2 ^ 64) : RR c (rI CMul fun i j => .int (i * j)) (dy x) (dy y) M P := rr_IC (.inl h) p
theorem rr_mod {x y : Int} (p : P (dy (x % y)) M) (h : 0 < y) : RR c (rI (fun _ j => 0 < j) fun i j => .int (i % j)) (dy x) (dy y) M P := rr_IC (C := fun _ j => 0 < j) h p
theorem rr_div {x y : Int} (p : P (dy (x / y)) M) (h : 0 < y ∧ y < 1073741824) : RR c (rI CDiv fun i j => .int (i / j)) (dy x) (dy y) M P := rr_IC h p
theorem rr_pow {x y : Int} (p : P (dy (x ^ y.toNat)) M) (h : 0 ≤ y ∧ y ≤ 1000000 ∧ x.natAbs < 2 ^ 64) : RR c (rI CPow fun i j => .int (i ^ j.toNat)) (dy x) (dy y) M P := rr_IC h p
theorem handX_ok {cells : List Int} {a b s n : Int} {k : Nat} : (cHandX cells a b s n).ok k := Free.l k cells
theorem paired_r {α β : Type} {G : β → Prop} : ∀ {xs : List α} {ys : List β} {y : β}, Paired (fun _ z => G z) xs ys → y ∈ ys → G y
  | _, _, _, .nil, h => by simp at h
  | _, _, y, .cons r t, h => by
    rcases List.mem_cons.mp h with z | z
    · rw [z]; exact r
    · exact paired_r t z
theorem ksort_lt : ∀ {zs : List Kind}, zs.Pairwise (fun x y => kbef y x = false) → zs.Nodup → zs.Pairwise fun x y => kbef x y = true
  | [], _, _ => .nil
  | x :: zs, h, n => by
    rw [List.pairwise_cons] at h ⊢
    rw [List.nodup_cons] at n
    refine ⟨fun y hy => ?_, ksort_lt h.2 n.2⟩
    have h1 : Zr.klt (kd y) (kd x) = false := h.1 y hy
    rcases Zr.klt_tri (kd x) (kd y) with z | z | z
    · exact z
    · have : x = y := by
        have := congrArg unkd z
        rwa [unkd_kd, unkd_kd] at this
      exact absurd hy (by rw [← this]; exact n.1)
    · rw [h1] at z; cases z
/-- the hand's making -/
theorem body_hand {t1 : TS} {N : List Str} {vs : List V} {H : Hp} {Q : VK} {E : XK} (h : spHand c vs H Q E) (hN : 1 ≤ N.length)
    (b : ∀ ns : List Int, ns.length ≤ 63 → WS c 0 t1 (envOf N.length [dy ns]) [] (fun e m => WE c te e m fun d m' => d = dy (MR.mk 0) ∧ m' = [cHand]) fun _ _ => False) : tSeq t1 (tRet te) { nx := fun _ H' => Q .non H', rt := Q } (L2.start N vs) H := by
  obtain ⟨F, ns, mm, rd, hl, fin⟩ := h
  refine b ns hl [] _ ⟨F, H⟩ _ ⟨slots_start rd (by simpa using hN), mm⟩ (fun e m as' σ' w' st s' p => ?_) fun v as' w' x m st mm' r p => p.elim
  refine p as' σ' w' _ s' fun v as2 w2 d m2 st2 mm2 r2 p2 => ?_
  obtain ⟨rfl, rfl⟩ := p2
  have hl2 := mm2.len
  obtain ⟨p, rfl⟩ : ∃ p, as2 = [p] := by
    cases as2 with
    | nil => simp at hl2
    | cons a t => cases t with
      | nil => exact ⟨a, rfl⟩
      | cons b t => simp at hl2
  obtain ⟨a, ha, rfl⟩ := r2
  have : p = a := by simpa using ha
  subst this
  exact fin p w2 (st.trans st2) mm2
end
end Zq
end
section
set_option Elab.async false
set_option linter.all false
set_option maxRecDepth 100000
/-! Any thing that is handed in: None, flags, ints, texts, tuples, lists, empty dicts, tables, nested. -/
namespace Zq
open PySem PySem.Spec PyProof.Rows L2
open Rep (rep)
inductive Th where
  | non
  | bl (b : Bool)
  | int (i : Int)
  | str (s : Str)
  | tup (l : List Th)
  | lst (l : List Th)
  | dic
  | tab (t : Tab)
mutual
def Th.rp (c : Cc) (F : Hp) (as : List Addr) (v : V) : Th → Prop
  | .non => v = .non
  | .bl b => v = .bl b
  | .int i => v = .int i
  | .str s => v = .str s
  | .tup l => ∃ a vs, v = .ref a ∧ SqT c.K F a vs ∧ Th.rps c F as vs l
  | .lst l => ∃ a vs, v = .ref a ∧ SqL c.K F a vs ∧ Th.rps c F as vs l
  | .dic => ∃ a, v = .ref a ∧ F a = some (.dK [])
  | .tab t => rep c F as v t
def Th.rps (c : Cc) (F : Hp) (as : List Addr) (vs : List V) : List Th → Prop
  | [] => vs = []
  | x :: xs => ∃ v us, vs = v :: us ∧ Th.rp c F as v x ∧ Th.rps c F as us xs
end
mutual
theorem Th.rp_mono {c : Cc} {F F' : Hp} {as as' : List Addr} (e : Ex F F') (p : as <+: as') : ∀ {v : V} (x : Th), Th.rp c F as v x → Th.rp c F' as' v x
  | _, .non, h => h
  | _, .bl _, h => h
  | _, .int _, h => h
  | _, .str _, h => h
  | _, .tup l, h => by
    simp only [Th.rp] at h ⊢
    obtain ⟨a, vs, rfl, h1, h2⟩ := h
    exact ⟨a, vs, rfl, sqT_mono e h1, Th.rps_mono e p l h2⟩
  | _, .lst l, h => by
    simp only [Th.rp] at h ⊢
    obtain ⟨a, vs, rfl, h1, h2⟩ := h
    exact ⟨a, vs, rfl, sqL_mono e h1, Th.rps_mono e p l h2⟩
  | _, .dic, h => by
    simp only [Th.rp] at h ⊢
    obtain ⟨a, rfl, h1⟩ := h
    exact ⟨a, rfl, e _ _ h1⟩
  | _, .tab t, h => by
    simp only [Th.rp] at h ⊢
    exact Rep.mono (x := t) e p h
theorem Th.rps_mono {c : Cc} {F F' : Hp} {as as' : List Addr} (e : Ex F F') (p : as <+: as') : ∀ {vs : List V} (l : List Th), Th.rps c F as vs l → Th.rps c F' as' vs l
  | _, [], h => h
  | _, x :: xs, h => by
    simp only [Th.rps] at h ⊢
    obtain ⟨v, us, rfl, h1, h2⟩ := h
    exact ⟨v, us, rfl, Th.rp_mono e p x h1, Th.rps_mono e p xs h2⟩
end
mutual
theorem Th.rp_cut {c : Cc} {F : Hp} {as : List Addr} {k : Nat} : ∀ {v : V} (x : Th), Th.rp c F as v x → Th.rp c F (as.take k) v x
  | _, .non, h => h
  | _, .bl _, h => h
  | _, .int _, h => h
  | _, .str _, h => h
  | _, .tup l, h => by
    simp only [Th.rp] at h ⊢
    obtain ⟨a, vs, rfl, h1, h2⟩ := h
    exact ⟨a, vs, rfl, h1, Th.rps_cut l h2⟩
  | _, .lst l, h => by
    simp only [Th.rp] at h ⊢
    obtain ⟨a, vs, rfl, h1, h2⟩ := h
    exact ⟨a, vs, rfl, h1, Th.rps_cut l h2⟩
  | _, .dic, h => by
    simp only [Th.rp] at h ⊢
    exact h
  | _, .tab t, h => by
    simp only [Th.rp] at h ⊢
    exact Rep.cut (Free.ok t k) h
theorem Th.rps_cut {c : Cc} {F : Hp} {as : List Addr} {k : Nat} : ∀ {vs : List V} (l : List Th), Th.rps c F as vs l → Th.rps c F (as.take k) vs l
  | _, [], h => h
  | _, x :: xs, h => by
    simp only [Th.rps] at h ⊢
    obtain ⟨v, us, rfl, h1, h2⟩ := h
    exact ⟨v, us, rfl, Th.rp_cut x h1, Th.rps_cut xs h2⟩
end
instance : Rep Th where
  rep c F as v x := Th.rp c F as v x
  ok _ _ := True
  mono := fun {c F F' as as' v x} e p h => Th.rp_mono e p x h
  cut := fun {c F as v x k} _ h => Th.rp_cut x h
instance : Free Th := ⟨fun _ _ => trivial⟩
theorem Dy.ext' {d e : Dy} (h : ∀ c F as v, d.h c F as v ↔ e.h c F as v) (o : ∀ k, d.ok k ↔ e.ok k) : d = e := by
  obtain ⟨dh, dok, _, _⟩ := d
  obtain ⟨eh, eok, _, _⟩ := e
  obtain rfl : dh = eh := funext fun c => funext fun F => funext fun as => funext fun v => propext (h c F as v)
  obtain rfl : dok = eok := funext fun k => propext (o k)
  rfl
theorem th_rps {c : Cc} {F : Hp} {as : List Addr} : ∀ {vs : List V} {l : List Th}, Th.rps c F as vs l ↔ RepL c F as vs l
  | vs, [] => by
    simp only [Th.rps]
    exact ⟨fun h => by subst h; exact .nil, fun h => by cases h; rfl⟩
  | vs, x :: xs => by
    simp only [Th.rps]
    constructor
    · rintro ⟨v, us, rfl, h1, h2⟩
      exact .cons h1 (th_rps.mp h2)
    · intro h
      cases h with
      | cons r t => exact ⟨_, _, rfl, r, th_rps.mpr t⟩
theorem th_non : dy Th.non = dy () := Dy.ext' (fun c F as v => by show Th.rp c F as v .non ↔ _; simp only [Th.rp]; exact Iff.rfl) fun k => Iff.rfl
theorem th_bl (b : Bool) : dy (Th.bl b) = dy b := Dy.ext' (fun c F as v => by show Th.rp c F as v (.bl b) ↔ _; simp only [Th.rp]; exact Iff.rfl) fun k => Iff.rfl
theorem th_int (i : Int) : dy (Th.int i) = dy i := Dy.ext' (fun c F as v => by show Th.rp c F as v (.int i) ↔ _; simp only [Th.rp]; exact Iff.rfl) fun k => Iff.rfl
theorem th_str (s : Str) : dy (Th.str s) = dy s := Dy.ext' (fun c F as v => by show Th.rp c F as v (.str s) ↔ _; simp only [Th.rp]; exact Iff.rfl) fun k => Iff.rfl
theorem th_tab (t : Tab) : dy (Th.tab t) = dy t := Dy.ext' (fun c F as v => by show Th.rp c F as v (.tab t) ↔ _; simp only [Th.rp]; exact Iff.rfl) fun k => ⟨fun _ => Free.ok t k, fun _ => trivial⟩
theorem th_tup (l : List Th) : dy (Th.tup l) = dy (Tp.mk l) := Dy.ext' (fun c F as v => by
  show Th.rp c F as v (.tup l) ↔ ∃ a vs, v = .ref a ∧ SqT c.K F a vs ∧ RepL c F as vs l
  simp only [Th.rp, th_rps]) fun k => ⟨fun _ => Free.l k l, fun _ => trivial⟩
theorem th_lst (l : List Th) : dy (Th.lst l) = dy l := Dy.ext' (fun c F as v => by
  show Th.rp c F as v (.lst l) ↔ ∃ a vs, v = .ref a ∧ SqL c.K F a vs ∧ RepL c F as vs l
  simp only [Th.rp, th_rps]) fun k => ⟨fun _ => Free.l k l, fun _ => trivial⟩
theorem rep_ints {c : Cc} {F : Hp} {as : List Addr} : ∀ {vs : List V} {xs : List Int}, RepL c F as vs (xs.map Th.int) ↔ RepL c F as vs xs
  | vs, [] => ⟨fun h => by cases h; exact .nil, fun h => by cases h; exact .nil⟩
  | vs, x :: xs => by
    constructor
    · intro h
      cases h with
      | cons r t => exact .cons (show _ = V.int x by have h : Th.rp c F as _ (.int x) := r; simpa only [Th.rp] using h) (rep_ints.mp t)
    · intro h
      cases h with
      | cons r t => exact .cons (show Th.rp c F as _ (.int x) by simp only [Th.rp]; exact r) (rep_ints.mpr t)
theorem th_ints (xs : List Int) : dy (xs.map Th.int) = dy xs := Dy.ext' (fun c F as v => by
  show (∃ a vs, v = .ref a ∧ SqL c.K F a vs ∧ RepL c F as vs (xs.map Th.int)) ↔ ∃ a vs, v = .ref a ∧ SqL c.K F a vs ∧ RepL c F as vs xs
  simp only [rep_ints]) fun k => ⟨fun _ => Free.l k xs, fun _ => Free.l k _⟩
theorem th_tints (xs : List Int) : dy (Tp.mk (xs.map Th.int)) = dy (Tp.mk xs) := Dy.ext' (fun c F as v => by
  show (∃ a vs, v = .ref a ∧ SqT c.K F a vs ∧ RepL c F as vs (xs.map Th.int)) ↔ ∃ a vs, v = .ref a ∧ SqT c.K F a vs ∧ RepL c F as vs xs
  simp only [rep_ints]) fun k => ⟨fun _ => Free.l k xs, fun _ => Free.l k _⟩
/-! ### isinstance of any thing -/
/-- what the table's class has for isinstance -/
structure IsI (c : Cc) : Prop where
  cl : Cls c.K (c.cls "Table")
  ha : PySem.W.findIn c.K (.ref (c.cls "Table")) "__class__" = some (some (.builtin "object.__class__"))
  hn : PySem.W.specialIn c.K (.builtin "object.__class__") "__get__" = some (some (.builtin "getset_descriptor.__get__"))
  htk : PySem.W.takesIn c.K (.builtin "object.__class__") = some true
  hm : PySem.W.mroIn c.K (c.cls "Table") (.type "object") = some true
  ki : PySem.W.kitOne c.K (.ref (c.cls "Table")) (.type "int") = some false
  kb : PySem.W.kitOne c.K (.ref (c.cls "Table")) (.type "bool") = some false
  kt : PySem.W.kitOne c.K (.ref (c.cls "Table")) (.type "tuple") = some false
  ks : PySem.W.kitOne c.K (.ref (c.cls "Table")) (.type "str") = some false
def Th.isInt : Th → Bool
  | .int _ => true
  | .bl _ => true
  | _ => false
def Th.isBl : Th → Bool
  | .bl _ => true
  | _ => false
def Th.isTup : Th → Bool
  | .tup _ => true
  | _ => false
def Th.isStr : Th → Bool
  | .str _ => true
  | _ => false
def below (n : Int) : Th → Bool
  | .int i => decide (0 ≤ i) && decide (i < n)
  | _ => false
def isIn (a b : Int) : Th → Bool
  | .int i => decide (a ≤ i) && decide (i ≤ b)
  | _ => false
def isBits (n : Int) : Th → Bool
  | .tup l => decide ((l.length : Int) = n) && l.all (below 2)
  | _ => false
def Th.ty (c : Cc) : Th → Value
  | .non => .type "NoneType"
  | .bl _ => .type "bool"
  | .int _ => .type "int"
  | .str _ => .type "str"
  | .tup _ => .type "tuple"
  | .lst _ => .type "list"
  | .dic => .type "dict"
  | .tab _ => .ref (c.cls "Table")
theorem Th.tyX {c : Cc} (I : IsI c) {F H : Hp} {as : List Addr} {v : V} (e : Ex F H) : ∀ {x : Th}, rep c F as v x → TyX c.K H v (x.ty c)
  | .non, h => by rw [show v = V.non from h]; exact .base .non
  | .bl _, h => by rw [show v = V.bl _ from h]; exact .base (.bl _)
  | .int _, h => by rw [show v = V.int _ from h]; exact .base (.int _)
  | .str _, h => by rw [show v = V.str _ from h]; exact .base (.str _)
  | .tup l, h => by
    have h : Th.rp c F as v (.tup l) := h
    simp only [Th.rp] at h
    obtain ⟨a, vs, rfl, hs, _⟩ := h; exact tyTup (sqT_mono e hs)
  | .lst l, h => by
    have h : Th.rp c F as v (.lst l) := h
    simp only [Th.rp] at h
    obtain ⟨a, vs, rfl, hs, _⟩ := h; exact tyLst (sqL_mono e hs)
  | .dic, h => by
    have h : Th.rp c F as v .dic := h
    simp only [Th.rp] at h
    obtain ⟨a, rfl, hs⟩ := h; exact .base (.dK (e _ _ hs))
  | .tab t, h => by
    have h : Th.rp c F as v (.tab t) := h
    simp only [Th.rp] at h
    obtain ⟨a, dx, ps, u, rfl, ha, _⟩ := h
    exact .base (.ins (e _ _ ha) I.cl I.ha I.hn I.htk I.hm)
section
variable {c : Cc} {M : Mem} {P : Dy → Mem → Prop}
theorem rc_isiK (I : IsI c) {x : Th} {n : String} {b : Bool} (hk : PySem.W.kitOne c.K (x.ty c) (.type n) = some b) (p : P (dy b) M) : RC c (rIsi c.K) [dy x, dy (PyTy.mk n)] M P := rc_pure (fun as W vs Q m r k => by
  obtain ⟨v, w, rfl, r1, r2⟩ := r.two
  obtain rfl : w = .ty n := r2
  exact ⟨v, .ty n, x.ty c, .type n, b, rfl, .ty n, Th.tyX I m.ex r1, hk, k _ rfl⟩) p
theorem rc_isInt (I : IsI c) {x : Th} (p : P (dy x.isInt) M) : RC c (rIsi c.K) [dy x, dy (PyTy.mk "int")] M P := by
  refine rc_isiK I (b := x.isInt) ?_ p
  cases x with
  | non => exact kit_ty (show kitB "NoneType" "int" = some false by decide +kernel)
  | bl b => exact kit_ty (show kitB "bool" "int" = some true by decide +kernel)
  | int i => exact kit_ty (show kitB "int" "int" = some true by decide +kernel)
  | str z => exact kit_ty (show kitB "str" "int" = some false by decide +kernel)
  | tup l => exact kit_ty (show kitB "tuple" "int" = some false by decide +kernel)
  | lst l => exact kit_ty (show kitB "list" "int" = some false by decide +kernel)
  | dic => exact kit_ty (show kitB "dict" "int" = some false by decide +kernel)
  | tab t => exact I.ki
theorem rc_isBl (I : IsI c) {x : Th} (p : P (dy x.isBl) M) : RC c (rIsi c.K) [dy x, dy (PyTy.mk "bool")] M P := by
  refine rc_isiK I (b := x.isBl) ?_ p
  cases x with
  | non => exact kit_ty (show kitB "NoneType" "bool" = some false by decide +kernel)
  | bl b => exact kit_ty (show kitB "bool" "bool" = some true by decide +kernel)
  | int i => exact kit_ty (show kitB "int" "bool" = some false by decide +kernel)
  | str z => exact kit_ty (show kitB "str" "bool" = some false by decide +kernel)
  | tup l => exact kit_ty (show kitB "tuple" "bool" = some false by decide +kernel)
  | lst l => exact kit_ty (show kitB "list" "bool" = some false by decide +kernel)
  | dic => exact kit_ty (show kitB "dict" "bool" = some false by decide +kernel)
  | tab t => exact I.kb
theorem rc_isTup (I : IsI c) {x : Th} (p : P (dy x.isTup) M) : RC c (rIsi c.K) [dy x, dy (PyTy.mk "tuple")] M P := by
  refine rc_isiK I (b := x.isTup) ?_ p
  cases x with
  | non => exact kit_ty (show kitB "NoneType" "tuple" = some false by decide +kernel)
  | bl b => exact kit_ty (show kitB "bool" "tuple" = some false by decide +kernel)
  | int i => exact kit_ty (show kitB "int" "tuple" = some false by decide +kernel)
  | str z => exact kit_ty (show kitB "str" "tuple" = some false by decide +kernel)
  | tup l => exact kit_ty (show kitB "tuple" "tuple" = some true by decide +kernel)
  | lst l => exact kit_ty (show kitB "list" "tuple" = some false by decide +kernel)
  | dic => exact kit_ty (show kitB "dict" "tuple" = some false by decide +kernel)
  | tab t => exact I.kt
theorem rc_isStr (I : IsI c) {x : Th} (p : P (dy x.isStr) M) : RC c (rIsi c.K) [dy x, dy (PyTy.mk "str")] M P := by
  refine rc_isiK I (b := x.isStr) ?_ p
  cases x with
  | non => exact kit_ty (show kitB "NoneType" "str" = some false by decide +kernel)
  | bl b => exact kit_ty (show kitB "bool" "str" = some false by decide +kernel)
  | int i => exact kit_ty (show kitB "int" "str" = some false by decide +kernel)
  | str z => exact kit_ty (show kitB "str" "str" = some true by decide +kernel)
  | tup l => exact kit_ty (show kitB "tuple" "str" = some false by decide +kernel)
  | lst l => exact kit_ty (show kitB "list" "str" = some false by decide +kernel)
  | dic => exact kit_ty (show kitB "dict" "str" = some false by decide +kernel)
  | tab t => exact I.ks
end
end Zq
end
section
set_option Elab.async false
set_option linter.all false
set_option maxRecDepth 100000
/-! Cells that are forgotten; + of tuples and lists; parts of tuples; items of dicts; shifts. -/
namespace Zq
open PySem PySem.Spec PyProof.Rows L2
open Rep (rep)
section
variable {c : Cc} {env : Env'} {M : Mem} {α β γ : Type} [Rep α] [Rep β] [Rep γ] {ta tb te : TE} {P : Dy → Mem → Prop} {k : Nat}
/-- what an expression has made beside its value is forgotten -/
theorem we_gc (h : WE c te env M fun d m => d.ok M.length ∧ okM M.length (m.take M.length) ∧ P d (m.take M.length)) : WE c te env M P := fun as σ w Q s q =>
  h as σ w _ s fun v as1 w1 d m1 st1 mm1 r1 p1 => by
    have hn : as.length = M.length := s.me.len.symm
    have e : as1.take M.length = as := by
      obtain ⟨t, rfl⟩ := st1.pre
      rw [← hn]; simp
    have m2 := mm1.take M.length p1.2.1
    rw [e] at m2
    have st2 := st1.cut (n := M.length) (by omega)
    rw [e] at st2
    have r2 := d.cut p1.1 r1
    rw [e] at r2
    exact q v as w1 d _ st2 m2 r2 p1.2.2
/-- + of two lists that stand in cells; the new one will not change -/
theorem rr_catM {i j : MR} {xs ys : List α} (h1 : M[i.k]? = some (cLst xs)) (h2 : M[j.k]? = some (cLst ys)) (hl : xs.length + ys.length ≤ 100000) (p : P (dy (xs ++ ys)) M) : RR c rCat (dy i) (dy j) M P := fun as W v w Q m r1 r2 k => by
  obtain ⟨a, vs, ha, hv, hr⟩ := m.lst h1
  obtain ⟨b, ws, hb, hw, hs⟩ := m.lst h2
  obtain ⟨a', ha', rfl⟩ := r1
  obtain ⟨b', hb', rfl⟩ := r2
  rw [ha] at ha'; cases ha'
  rw [hb] at hb'; cases hb'
  exact ⟨a, b, vs, ws, rfl, rfl, hv, hw, small_le (by rw [hr.length, hs.length]; exact hl), new_obj (z := dy (xs ++ ys)) m (fun p F' hp e => ⟨p, _, rfl, sql_of hp, RepL.mono e (List.prefix_refl _) (hr.append hs)⟩) k p⟩
/-- + of two tuples -/
theorem rr_catT {xs ys : Tp α} (hl : xs.l.length + ys.l.length ≤ 100000) (p : P (dy (Tp.mk (xs.l ++ ys.l))) M) : RR c (rCatA c.K) (dy xs) (dy ys) M P := fun as W v w Q m r1 r2 k => by
  obtain ⟨a, vs, rfl, hs, hr⟩ := r1
  obtain ⟨b, ws, rfl, ht, hq⟩ := r2
  have l1 := hr.length
  have l2 := hq.length
  refine ⟨a, b, vs, ws, rfl, rfl, sqT_mono m.ex hs, sqT_mono m.ex ht, small_le (by rw [l1, l2]; exact hl), fun h => ?_, fun _ h => ?_, fun _ _ => ?_⟩
  · subst h
    have hx : xs.l = [] := List.length_eq_zero_iff.mp l1.symm
    rw [hx, List.nil_append] at p
    exact k _ as W (dy (Tp.mk ys.l)) M (.refl _ _) m ⟨b, ws, rfl, ht, hq⟩ p
  · subst h
    have hy : ys.l = [] := List.length_eq_zero_iff.mp l2.symm
    rw [hy, List.append_nil] at p
    exact k _ as W (dy (Tp.mk xs.l)) M (.refl _ _) m ⟨a, vs, rfl, hs, hr⟩ p
  · exact new_obj (z := dy (Tp.mk (xs.l ++ ys.l))) m (fun p F' hp e => ⟨p, _, rfl, sqt_of hp, RepL.mono e (List.prefix_refl _) (hr.append hq)⟩) k p
/-! ### parts -/
def cutL {δ : Type} (xs : List δ) (lo hi : Option Int) : List δ := (xs.drop (HT.sIx xs.length 0 lo)).take (HT.sIx xs.length xs.length hi - HT.sIx xs.length 0 lo)
theorem rep_cut {F : Hp} {as : List Addr} {vs : List V} {xs : List α} (h : RepL c F as vs xs) (lo hi : Option Int) : RepL c F as (cutV vs lo hi) (cutL xs lo hi) := by
  unfold cutV cutL
  rw [h.length]
  exact RepL.take _ (RepL.drop _ h)
/-- a part of a slice's two bounds -/
def WO (c : Cc) (t : TO) (env : Env') (M : Mem) (P : Option Int → Mem → Prop) : Prop :=
  ∀ as σ w (Q : Option Int → Hp → Prop), Sta c env M as σ w → (∀ o as' w' M', Step as w as' w' → MemOk c as' w' M' → P o M' → Q o w'.H) → t σ w.H Q
theorem wo_none {P : Option Int → Mem → Prop} (p : P none M) : WO c tNoPart env M P := fun as σ w Q s q => q none as w M (.refl _ _) s.me p
theorem wo_some {P : Option Int → Mem → Prop} (h : WE c te env M (As Int fun i m => P (some i) m)) : WO c (tPart te) env M P := fun as σ w Q s q =>
  h as σ w _ s fun v as1 w1 d m1 st1 mm1 r1 p1 => by
    obtain ⟨i, rfl, p⟩ := p1
    exact ⟨i, r1, q (some i) as1 w1 m1 st1 mm1 p⟩
theorem we_slA {tl th : TO} (h : WE c te env M (As (Tp α) fun xs m => WO c tl env m fun lo m => WO c th env m fun hi m => P (dy (Tp.mk (cutL xs.l lo hi))) m)) : WE c (tSl (rSlA c.K) te tl th) env M P := fun as σ w Q s q =>
  h as σ w _ s fun v as1 w1 d m1 st1 mm1 r1 p1 => by
    obtain ⟨xs, rfl, p1⟩ := p1
    refine p1 as1 σ w1 _ (s.step st1 mm1) fun lo as2 w2 m2 st2 mm2 p2 => ?_
    refine p2 as2 σ w2 _ (s.step (st1.trans st2) mm2) fun hi as3 w3 m3 st3 mm3 p3 => ?_
    obtain ⟨a, vs, rfl, hs, hr⟩ := Rep.mono (x := xs) (st2.trans st3).ex (st2.trans st3).pre r1
    have st := (st1.trans st2).trans st3
    refine ⟨a, vs, rfl, sqT_mono mm3.ex hs, fun hw => ?_, fun _ => ?_⟩
    · have e : cutL xs.l lo hi = xs.l := by
        unfold cutL
        rw [← hr.length, hw.1, hw.2, List.drop_zero, Nat.sub_zero, hr.length, List.take_length]
      have p4 : P (dy (Tp.mk (cutL xs.l lo hi))) m3 := p3
      rw [e] at p4
      exact q (.ref a) as3 w3 (dy (Tp.mk xs.l)) m3 st mm3 ⟨a, vs, rfl, hs, hr⟩ p4
    · exact new_obj (z := dy (Tp.mk (cutL xs.l lo hi))) mm3 (fun p F' hp e => ⟨p, _, rfl, sqt_of hp, RepL.mono e (List.prefix_refl _) (rep_cut hr lo hi)⟩) (fun u as' w' z M' st' m r p => q u as' w' z M' (st.trans st') m r p) p3
/-! ### d[i] -/
theorem we_dgetM {td ty : TE} (h : WE c td env M (As MR fun j m1 => WE c ty env m1 (As Int fun i m2 => ∃ (kvs : List (Int × β)) (y : β), m2[j.k]? = some (cDic kvs) ∧ dget kvs i = some y ∧ P (dy y) m2))) : WE c (tDGet td ty) env M P := fun as σ w Q s q =>
  h as σ w _ s fun v as1 w1 d m1 st1 mm1 r1 p1 => by
    obtain ⟨j, rfl, p1⟩ := p1
    refine p1 as1 σ w1 _ (s.step st1 mm1) fun v2 as2 w2 d2 m2 st2 mm2 r2 p2 => ?_
    obtain ⟨i, rfl, kvs, y, hm, hg, p⟩ := p2
    obtain ⟨a, o, ha, ho, ps, rfl, hr⟩ := mm2.at_ _ _ hm
    obtain ⟨a', ha', rfl⟩ := Rep.mono (x := j) st2.ex st2.pre r1
    rw [ha] at ha'; cases ha'
    obtain rfl : v2 = .int i := r2
    rcases rk_get i hr with ⟨h1, _⟩ | ⟨y', u, h1, h2, h3⟩
    · rw [hg] at h1; cases h1
    · rw [hg] at h1; cases h1
      have hd := DGet.k (k := Sum.inl i) ho
      rw [h2] at hd
      exact ⟨_, u, rfl, hd, q u as2 w2 (dy y) m2 (st1.trans st2) mm2 h3 p⟩
theorem we_dgetF {td ty : TE} (h : WE c td env M (As (Dc β) fun dd m1 => WE c ty env m1 (As Int fun i m2 => ∃ (y : β), dget dd.kvs i = some y ∧ P (dy y) m2))) : WE c (tDGet td ty) env M P := fun as σ w Q s q =>
  h as σ w _ s fun v as1 w1 d m1 st1 mm1 r1 p1 => by
    obtain ⟨dd, rfl, p1⟩ := p1
    refine p1 as1 σ w1 _ (s.step st1 mm1) fun v2 as2 w2 d2 m2 st2 mm2 r2 p2 => ?_
    obtain ⟨i, rfl, y, hg, p⟩ := p2
    obtain ⟨a, ps, rfl, ho, hr⟩ := Rep.mono (x := dd) st2.ex st2.pre r1
    obtain rfl : v2 = .int i := r2
    rcases rk_get i hr with ⟨h1, _⟩ | ⟨y', u, h1, h2, h3⟩
    · rw [hg] at h1; cases h1
    · rw [hg] at h1; cases h1
      have hd := DGet.k (k := Sum.inl i) (mm2.ex _ _ ho)
      rw [h2] at hd
      exact ⟨_, u, rfl, hd, q u as2 w2 (dy y) m2 (st1.trans st2) mm2 h3 p⟩
theorem rr_shl {x y : Int} (p : P (dy (x * 2 ^ y.toNat)) M) (h : 0 ≤ y ∧ y ≤ 1000000 ∧ x.natAbs < 2 ^ 64) : RR c (rI CPow fun i j => .int (i * 2 ^ j.toNat)) (dy x) (dy y) M P := rr_IC h p
/-- {}, never to change -/
theorem we_dic0 (p : P (dy Th.dic) M) : WE c tDNewK env M P := fun as σ w Q s q =>
  new_obj (z := dy Th.dic) s.me (fun p F' hp e => by
    show Th.rp c F' as (.ref p) .dic
    simp only [Th.rp]
    exact ⟨p, rfl, hp⟩) q p
end
end Zq
end
section
set_option Elab.async false
set_option linter.all false
set_option maxRecDepth 100000
/-! zip of two sequences, each a list or a tuple; tuples turned about. -/
namespace Zr
open PySem PySem.Spec PyProof.Rows L2
/-- the items of a tuple (true), of a list (false) -/
def SqX (t : Bool) (K : PySem.W.Frag) (H : Hp) (a : Addr) (xs : List V) : Prop := if t then SqT K H a xs else SqL K H a xs
def HasX (t : Bool) (h : Heap) (a : Addr) (its : Array Value) : Prop := if t then h.IsTuple a its else h.IsList a its
def ItX (t : Bool) (h : Heap) (it a : Addr) (i : Nat) : Prop := if t then h.IsTupleIter it a i else h.IsListIter it a i
theorem ItX.keeps {t : Bool} {h h2 : Heap} {it a : Addr} {i : Nat} (x : ItX t h it a i) (k : ∀ o, h.get? it = some o → h2.get? it = some o) : ItX t h2 it a i := by
  cases t with
  | true => exact Heap.IsTupleIter.at (show h.IsTupleIter it a i from x) k
  | false => exact Heap.IsListIter.at (show h.IsListIter it a i from x) k
theorem ItX.has {t : Bool} {h : Heap} {it a : Addr} {i : Nat} (x : ItX t h it a i) : ∃ o, h.get? it = some o ∧ ∀ v, o.data ≠ .seq v := by
  cases t with
  | true =>
    obtain ⟨o, e, _, d⟩ := (show h.IsTupleIter it a i from x)
    exact ⟨o, e, fun v q => by rw [d] at q; cases q⟩
  | false =>
    obtain ⟨o, e, _, d⟩ := (show h.IsListIter it a i from x)
    exact ⟨o, e, fun v q => by rw [d] at q; cases q⟩
theorem hasX {t : Bool} {X : Cx} {pins : List (Addr × Obj)} {σ : L2.St} {H : Hp} {s : Shared} (I : Inv X pins σ H s) {a : Addr} {xs : List V} (q : SqX t X.K H a xs) : ∃ its : List Value, Vals xs its ∧ HasX t s.heap a its.toArray ∧ a < s.heap.objs.size := by
  cases t with
  | true =>
    obtain ⟨its, rv, p, _⟩ := I.tuple (show SqT X.K H a xs from q)
    have pt : s.heap.IsTuple a its.toArray := p
    refine ⟨its, rv, pt, ?_⟩
    obtain ⟨o, ho, _⟩ := pt
    exact Heap.lt_size ho
  | false =>
    obtain ⟨its, rv, p, _⟩ := I.list (show SqL X.K H a xs from q)
    exact ⟨its, rv, p.isList, p.lt⟩
theorem sqX_inj {t : Bool} {X : Cx} {pins : List (Addr × Obj)} {σ : L2.St} {H : Hp} {s : Shared} (I : Inv X pins σ H s) {a : Addr} {xs ys : List V} (p : SqX t X.K H a xs) (q : SqX t X.K H a ys) : xs = ys := by
  cases t with
  | true => exact I.tuple_inj (show SqT X.K H a xs from p) q
  | false => exact I.list_inj (show SqL X.K H a xs from p) q
theorem drawsX {P : Program} {w : World} {A : Around} (t : Bool) (hh : A.handled = none) (it a : Addr) (hne : a ≠ it) (its : Array Value) :
    Draws P w A it [it, a] its.size (fun i v => its[i]? = some v) (fun i h => ItX t h it a i ∧ HasX t h a its) := by
  cases t with
  | true => exact Draws.tuple hh it a hne its
  | false => exact Draws.list hh it a hne its
/-- the sequences at a and b, their items in new pairs -/
def ItZ (t1 t2 : Bool) (K : PySem.W.Frag) (a b : Addr) : It where
  go i H := ∃ (xs ys : List V) (x y : V), SqX t1 K H a xs ∧ SqX t2 K H b ys ∧ xs[i]? = some x ∧ ys[i]? = some y
  yld i H v H' := ∃ T x y, v = .ref T ∧ H T = none ∧ H' = upd H T (.tup [x, y]) ∧ (∀ xs, SqX t1 K H a xs → xs[i]? = some x) ∧ ∀ ys, SqX t2 K H b ys → ys[i]? = some y
  stop i H := ∃ xs ys : List V, SqX t1 K H a xs ∧ SqX t2 K H b ys ∧ ((i = xs.length ∧ i ≤ ys.length) ∨ (i = ys.length ∧ i ≤ xs.length))
structure ZApart (z TI TO i1 i2 a b : Addr) : Prop where
  sep : ZipSep2 z TI TO i1 i2 [i1, a] [i2, b]
  ai : a ≠ i1
  bi : b ≠ i2
theorem turn_zipX {P : Program} {w : World} {K : PySem.W.Frag} {elts : List Expr} {kk : Nat} {tpos : Pos} {t1 t2 : Bool} {a b z TI TO i1 i2 : Addr} (D : ZApart z TI TO i1 i2 a b) :
    Turn P w K (.Tuple elts kk tpos) (ItZ t1 t2 K a b) [z, TI, TO, i1, i2] z
      (fun i h => IsZip h z TI TO .none ∧ IsTupOf2 h TI (.ref i1) (.ref i2) ∧ (∃ x y, IsTupOf2 h TO x y) ∧ ItX t1 h i1 a i ∧ ItX t2 h i2 b i) := by
  have S := D.sep
  have z1 : i1 ≠ z := fun e => S.zi1 e.symm
  have z2 : i2 ≠ z := fun e => S.zi2 e.symm
  constructor
  case mem => exact List.mem_cons_self
  case obj =>
    rintro i h ⟨hz, hTI, ⟨x, y, hTO⟩, h1, h2⟩ b hb
    simp only [List.mem_cons, List.not_mem_nil, or_false] at hb
    rcases hb with rfl | rfl | rfl | rfl | rfl
    · exact ⟨_, hz, fun v q => nomatch q⟩
    · exact ⟨_, hTI, fun v q => nomatch q⟩
    · exact ⟨_, hTO, fun v q => nomatch q⟩
    · obtain ⟨o, e, d⟩ := h1.has
      exact ⟨o, e, fun v q => by cases t1 <;> (obtain ⟨o', e', _, d'⟩ := h1; rw [e] at e'; cases e'; rw [d'] at q; cases q)⟩
    · obtain ⟨o, e, d⟩ := h2.has
      exact ⟨o, e, fun v q => by cases t2 <;> (obtain ⟨o', e', _, d'⟩ := h2; rw [e] at e'; cases e'; rw [d'] at q; cases q)⟩
  case keep =>
    rintro i h h2 ⟨hz, hTI, ⟨x, y, hTO⟩, e1, e2⟩ k
    exact ⟨k z (by simp) _ hz, k TI (by simp) _ hTI, ⟨x, y, k TO (by simp) _ hTO⟩, e1.keeps fun o q => k i1 (by simp) o q, e2.keeps fun o q => k i2 (by simp) o q⟩
  case item =>
    intro X hP hw hK hc i pins s σ H E I hf st hg
    subst hP hw hK
    obtain ⟨hz, hTI, ⟨x0, y0, hTO⟩, h1, h2⟩ := st
    obtain ⟨xs, ys, x, y, q1, q2, hx, hy⟩ := hg
    obtain ⟨its1, r1, p1, _⟩ := hasX I q1
    obtain ⟨its2, r2, p2, _⟩ := hasX I q2
    obtain ⟨u1, hu1, ru1⟩ := r1.get hx
    obtain ⟨u2, hu2, ru2⟩ := r2.get hy
    have a1 : its1.toArray[i]? = some u1 := by simpa using hu1
    have a2 : its2.toArray[i]? = some u2 := by simpa using hu2
    have lz : z < s.heap.objs.size := Heap.lt_size hz
    refine wpAny_pyNext_zipD2_item S (drawsX t1 (by simp [I.ok.hd hc]) i1 a D.ai its1.toArray) (drawsX t2 (by simp [I.ok.hd hc]) i2 b D.bi its2.toArray) hz hTI hTO ⟨h1, p1⟩ ⟨h2, p2⟩
      (Array.getElem?_eq_some_iff.mp a1).1 (Array.getElem?_eq_some_iff.mp a2).1 fun w1 w2 g tk y1 y2 gz gO s1 s2 gT gn gk => ?_
    obtain rfl : u1 = w1 := Option.some.inj (a1.symm.trans y1)
    obtain rfl : u2 = w2 := Option.some.inj (a2.symm.trans y2)
    refine ⟨_, rfl, wpAny_letOwnedTupleGo_zip (s := { s with heap := g, toks := tk }) gz fun g3 z3 sb => ?_⟩
    have gT3 := (sb.2 _ (Nat.ne_of_gt lz)).trans gT
    have new : ObjOk X.prog X.w (upd H s.heap.objs.size (.tup [x, y])) g3 s.heap.objs.size (.tup [x, y]) :=
      ⟨by show 2 ≤ sizeLine; decide, [u1, u2], .cons ru1 (.cons ru2 .nil), _, gT3, rfl, _, rfl⟩
    have far : ∀ c o, c ∉ [z, TI, TO, i1, i2] → s.heap.get? c = some o → g3.get? c = some o := fun c o hb q => by
      simp only [List.mem_cons, List.not_mem_nil, or_false, not_or] at hb
      exact (sb.2 c hb.1).trans (gk c o hb.1 hb.2.2.1 hb.2.2.2.1 hb.2.2.2.2 q)
    have I3 : Inv X pins σ (upd H s.heap.objs.size (.tup [x, y])) { s with heap := g3, toks := tk } := I.turnedNew far hf (Nat.le_refl _) new
    have all : ∀ c, c ∈ [z, TI, TO, i1, i2] → c < s.heap.objs.size := by
      intro c hb
      simp only [List.mem_cons, List.not_mem_nil, or_false] at hb
      rcases hb with rfl | rfl | rfl | rfl | rfl
      · exact lz
      · exact Heap.lt_size hTI
      · exact Heap.lt_size hTO
      · obtain ⟨o, e, _⟩ := h1.has; exact Heap.lt_size e
      · obtain ⟨o, e, _⟩ := h2.has; exact Heap.lt_size e
    refine ⟨.ref s.heap.objs.size, _, I3, rfl, ⟨_, x, y, rfl, I.hok.fresh (Nat.le_refl _), rfl, fun l hl => by rw [sqX_inj I hl q1]; exact hx, fun l hl => by rw [sqX_inj I hl q2]; exact hy⟩, ⟨z3, ?_, ⟨u1, u2, ?_⟩, ?_, ?_⟩, fun c hb => ?_⟩
    · exact (sb.2 _ S.TIz).trans (gk _ _ S.TIz S.TITO S.TIi1 S.TIi2 hTI)
    · exact (sb.2 _ S.TOz).trans gO
    · exact s1.1.keeps fun o q => (sb.2 _ z1).trans q
    · exact s2.1.keeps fun o q => (sb.2 _ z2).trans q
    · rw [upd_ne (Nat.ne_of_lt (all c hb))]
      exact (hf c hb).1
  case done =>
    intro X hP hw hK hc i pins s σ H E I hf st hg
    subst hP hw hK
    obtain ⟨hz, hTI, ⟨x0, y0, hTO⟩, h1, h2⟩ := st
    obtain ⟨xs, ys, q1, q2, he⟩ := hg
    obtain ⟨its1, r1, p1, _⟩ := hasX I q1
    obtain ⟨its2, r2, p2, _⟩ := hasX I q2
    have e1 : its1.toArray.size = xs.length := by rw [List.size_toArray, r1.length]
    have e2 : its2.toArray.size = ys.length := by rw [List.size_toArray, r2.length]
    refine wpAny_pyNext_zipD2_end S (drawsX t1 (by simp [I.ok.hd hc]) i1 a D.ai its1.toArray) (drawsX t2 (by simp [I.ok.hd hc]) i2 b D.bi its2.toArray) hz hTI hTO ⟨h1, p1⟩ ⟨h2, p2⟩
      (by rw [e1]; omega) (by rw [e2]; omega) (by rw [e1, e2]; omega) fun g tk gk => ⟨rfl, I.turnedL (fun c o hb q => ?_) hf⟩
    simp only [List.mem_cons, List.not_mem_nil, or_false, not_or] at hb
    exact gk c o hb.1 hb.2.2.1 hb.2.2.2.1 hb.2.2.2.2 q
  case self =>
    rintro A i s Q E ⟨hz, _⟩ h
    exact wpAny_pyIter_zip hz h
def iZipX (t1 t2 : Bool) (K : PySem.W.Frag) (ta : TA) : TI := fun σ H R => ta σ H fun vs H1 => ∃ a b xs ys, vs = [.ref a, .ref b] ∧ SqX t1 K H1 a xs ∧ SqX t2 K H1 b ys ∧ R (ItZ t1 t2 K a b) H1
abbrev begO (t : Bool) (a : Addr) : Obj := { cls := .type (if t then "tuple_iterator" else "list_iterator"), data := .fields #[.ref a, .int 0 0] }
theorem begins_X (t : Bool) (a : Addr) (its : Array Value) : Begins (.ref a) (begO t a) fun h => HasX t h a its := by
  cases t with
  | true => exact begins_tuple a its
  | false => exact begins_list a its
theorem begO_it {t : Bool} {h : Heap} {it a : Addr} (e : h.get? it = some (begO t a)) : ItX t h it a 0 := by
  cases t with
  | true => exact ⟨_, e, rfl, rfl⟩
  | false => exact ⟨_, e, rfl, rfl⟩
theorem zapart_nat (n a b : Nat) (ha : a < n) (hb : b < n) : ZApart (n + 4) (n + 2) (n + 3) n (n + 1) a b := by
  have ne : ∀ x y : Nat, x < y → ¬ ((x : Addr) = (y : Addr)) := fun x y h e => Nat.ne_of_lt h e
  have en : ∀ x y : Nat, y < x → ¬ ((x : Addr) = (y : Addr)) := fun x y h e => Nat.ne_of_gt h e
  have two : ∀ x y z : Nat, x ≠ y → x ≠ z → (x : Addr) ∉ ([y, z] : List Addr) := fun x y z h1 h2 hm => by
    rcases List.mem_cons.mp hm with e | e
    · exact h1 e
    · exact h2 (List.mem_singleton.mp e)
  exact ⟨⟨ne (n + 2) (n + 4) (by omega), ne (n + 3) (n + 4) (by omega), ne (n + 2) (n + 3) (by omega), en (n + 2) n (by omega), List.mem_cons_self, two (n + 4) n a (by omega) (by omega), two (n + 3) n a (by omega) (by omega),
    en (n + 2) (n + 1) (by omega), List.mem_cons_self, two (n + 4) (n + 1) b (by omega) (by omega), two (n + 3) (n + 1) b (by omega) (by omega), two n (n + 1) b (by omega) (by omega), two (n + 1) n a (by omega) (by omega)⟩, ne a n ha, ne b (n + 1) (by omega)⟩
theorem zapart_new {n a b : Addr} (ha : a < n) (hb : b < n) : ZApart (n + 4) (n + 2) (n + 3) n (n + 1) a b := zapart_nat n a b ha hb
theorem pi_zipX {X : Cx} {e e2 : Expr} {ta : TA} {p pos tpos : Pos} {elts : List Expr} {kk : Nat} (t1 t2 : Bool) (hg : Gl X "zip") (hm : X.mg "zip" = none) (ha : PA X [e, e2] ta)
    (hs : starEach [e, e2] X.env = (false, eval e X.env) :: starEach [e2] X.env := by rfl) (hpl : (backTo pos (starEach [e2] X.env)).any (·.1) = false := by rfl) :
    PI X (.Tuple elts kk tpos) (.Call (.Name "zip" p) [e, e2] [] pos) (iZipX t1 t2 X.K ta) := by
  constructor
  intro pins s σ H R I h
  refine Call_ (ld_blt I hg hm PyProof.Rows.boot_zip (PyProof.Rows.callWith_type1 ?_ hs hpl))
  refine thn (ha.run pos pins s σ H _ I h) ?_
  rintro us s1 ⟨vs, H1, I1, r1, a, b, xs, ys, rfl, q1, q2, q⟩
  cases r1 with
  | cons r rr =>
    cases rr with
    | cons r' rr =>
      cases rr
      obtain rfl := (show _ = Value.ref a from r)
      obtain rfl := (show _ = Value.ref b from r')
      obtain ⟨its1, _, p1, l1⟩ := hasX I1 q1
      obtain ⟨its2, _, p2, l2⟩ := hasX I1 q2
      refine zip_begins2 (begins_X t1 a its1.toArray) (begins_X t2 b its2.toArray) p1 p2 fun g gz gI gO g1 g2 gn gk => wpAny_pyIter_zip gz ?_
      have I2 : Inv X pins σ H1 { s1 with heap := g } := I1.kept (t' := s1.toks) gk
      refine ⟨s1.heap.objs.size + 4, [s1.heap.objs.size + 4, s1.heap.objs.size + 2, s1.heap.objs.size + 3, s1.heap.objs.size, s1.heap.objs.size + 1], _, _, H1, rfl, I2, turn_zipX (zapart_new l1 l2),
        ⟨gz, gI, ⟨_, _, gO⟩, begO_it g1, begO_it g2⟩, fun c hb => ?_, q⟩
      have hle : s1.heap.objs.size ≤ c := by
        simp only [List.mem_cons, List.not_mem_nil, or_false] at hb
        rcases hb with rfl | rfl | rfl | rfl | rfl
        · exact Nat.le_add_right _ _
        · exact Nat.le_add_right _ _
        · exact Nat.le_add_right _ _
        · exact Nat.le_refl _
        · exact Nat.le_add_right _ _
      exact I1.fpOk hle (I1.hok.fresh hle)
/-! ### t[::-1] of a tuple -/
theorem back_adjust (n : Nat) : Builtin.Slice.sliceAdjust none none (-1) (n : Int) = ((n : Int) - 1, -1) := by
  unfold Builtin.Slice.sliceAdjust
  rfl
theorem back_places (n : Nat) : Builtin.Slice.slicePlaces ((n : Int) - 1) (-1) (-1) = n := by
  unfold Builtin.Slice.slicePlaces
  rw [if_neg (by decide)]
  split
  · have e : ((n : Int) - 1 - -1 - 1) / (- -1) = (n : Int) - 1 := by
      rw [show (- -1 : Int) = 1 by decide, Int.ediv_one]; omega
    rw [e]; omega
  · show (0 : Int).toNat = n; omega
theorem fm_congr {α β : Type} {f g : α → Option β} : ∀ l : List α, (∀ x, x ∈ l → f x = g x) → l.filterMap f = l.filterMap g
  | [], _ => rfl
  | x :: l, h => by
    have ih := fm_congr l fun y hy => h y (List.mem_cons_of_mem _ hy)
    rw [List.filterMap_cons, List.filterMap_cons, h x (by simp), ih]
theorem back_pick (xs : Array Value) : ((List.range xs.size).filterMap fun (m : Nat) => xs[(((xs.size : Int) - 1) + (m : Int) * (-1)).toNat]?).toArray = xs.toList.reverse.toArray := by
  have e : ((List.range xs.size).filterMap fun (m : Nat) => xs[(((xs.size : Int) - 1) + (m : Int) * (-1)).toNat]?) = ((List.range xs.size).map fun k => xs.size - 1 - k).filterMap (xs[·]?) := by
    rw [List.filterMap_map]
    refine fm_congr _ fun m hm => ?_
    have := List.mem_range.mp hm
    show xs[(((xs.size : Int) - 1) + (m : Int) * (-1)).toNat]? = xs[xs.size - 1 - m]?
    congr 1
    omega
  rw [e, PySem.W.krv_range, List.filterMap_reverse, PySem.W.krv_all]
section
variable {P : Program} {w : World} {A : Around} {E : Value → Shared → Prop} {s : Shared}
theorem back_applied {sl : Addr} {vl vu vs : Value} {n : Nat} {Q : Int × Int × Nat → Shared → Prop} (hs : s.heap.IsSliceOf sl vl vu vs) (pl : IsPart vl none) (pu : IsPart vu none) (ps : IsPart vs (some (-1)))
    (h : Q ((n : Int) - 1, -1, n) s) : wpAny (model P w) A (Builtin.Slice.sliceApplied (.ref sl) (pure (n : Int))) Q E s := by
  obtain ⟨o, ho, hc, hd⟩ := id hs
  unfold Builtin.Slice.sliceApplied Builtin.Slice.sliceFields
  refine wpAny_bind (wpAny_bind ?_)
  refine wpAny_field ho hd (x := vl) rfl (wpAny_bind ?_)
  refine wpAny_field ho hd (x := vu) rfl (wpAny_bind ?_)
  refine wpAny_field ho hd (x := vs) rfl (wpAny_pure ?_)
  refine wpAny_bind (HT.slicePart_ ps ?_)
  show wpAny _ _ (if ((-1 : Int) == 0) = true then _ else _) _ _ s
  rw [if_neg (by decide)]
  refine wpAny_bind (HT.slicePart_ pl (wpAny_bind ?_))
  refine HT.slicePart_ pu (wpAny_bind (wpAny_pure ?_))
  show wpAny _ _ (match Builtin.Slice.sliceAdjust none none (-1) (n : Int) with | (x, y) => pure (x, (-1 : Int), Builtin.Slice.slicePlaces x y (-1))) _ _ s
  rw [back_adjust]
  show wpAny _ _ (pure ((n : Int) - 1, (-1 : Int), Builtin.Slice.slicePlaces ((n : Int) - 1) (-1) (-1))) _ _ s
  rw [back_places]
  exact wpAny_pure h
theorem getItem_tuple_rev {t sl : Addr} {its : Array Value} {vl vu vs : Value} {Q : Value → Shared → Prop} (ht : IsTup s.heap t its) (hs : s.heap.IsSliceOf sl vl vu vs) (pl : IsPart vl none) (pu : IsPart vu none) (ps : IsPart vs (some (-1)))
    (h : Q (.ref s.heap.objs.size) { s with heap := s.heap.push { cls := .type "tuple", data := .seq its.toList.reverse.toArray } }) (hsz : its.size ≤ sizeLine) : wpAny (model P w) A (getItem (.ref t) (.ref sl)) Q E s := by
  have hk : sizeOk (.seq its.toList.reverse.toArray) := by
    show its.toList.reverse.toArray.size ≤ sizeLine
    simpa using hsz
  obtain ⟨os, hos, hcs, hds⟩ := id hs
  have hT : s.TypeIs (.ref sl) "slice" := ⟨os, hos, hcs⟩
  unfold getItem
  try with_reducible refine wpAny_holding ?_
  first | refine wpAny_bind (wpAny_pure ?_) | skip
  refine wpAny_bind (wpAny_sequenceKey ht.typeIs (by decide) ?_)
  have sg := PyProof.Rows.slot_tuple_getitem
  refine wpAny_bind (wpAny_callSpecial?_slot (name := Str.ofString "__getitem__") ht.typeIs sg (wpAny_call_entry sg ht.typeIs PyProof.Rows.entry_tuple_getitem ?_ (PyProof.Rows.args_tuple_getitem _ _)))
  show wpAny _ _ (Builtin.Tuple.tupleItemsOf (.ref t) >>= _) _ _ s
  refine wpAny_bind (PyProof.Rows.tupleItemsOf_ ht (wpAny_bind (wpAny_typeOf hT ?_)))
  rw [if_pos (by decide)]
  refine wpAny_bind (back_applied hs pl pu ps ?_)
  have no : ¬ ((((its.size : Int) - 1) == 0 && (-1 : Int) == 1 && its.size == its.size) = true) := by
    intro q
    rw [Bool.and_eq_true, Bool.and_eq_true] at q
    exact absurd q.1.2 (by decide)
  show wpAny _ _ (if (((its.size : Int) - 1) == 0 && (-1 : Int) == 1 && its.size == its.size) = true then _ else _) _ _ s
  rw [if_neg no, back_pick]
  first
    | exact wpAny_bind (m := Builtin.Tuple.tupleExact _) (wpAny_newObj_type (wpAny_pure ⟨_, rfl, wpAny_pure h⟩) hk)
    | exact wpAny_bind (wpAny_bind (m := Builtin.Tuple.tupleExact _) (wpAny_newObj_type (wpAny_pure (wpAny_pure ⟨_, rfl, wpAny_pure h⟩)) hk))
    | exact wpAny_bind (m := Builtin.Tuple.tupleExact _) (wpAny_newObj_type (wpAny_bind (wpAny_pure (wpAny_pure ⟨_, rfl, wpAny_pure h⟩))) hk)
    | exact wpAny_bind (wpAny_bind (m := Builtin.Tuple.tupleExact _) (wpAny_newObj_type (wpAny_pure ⟨_, rfl, wpAny_pure h⟩) hk))
end
def tRevT (K : PySem.W.Frag) (te : TE) : TE := fun σ H Q => te σ H fun x H1 => ∃ a xs, x = .ref a ∧ SqT K H1 a xs ∧ ∀ p, H1 p = none → Q (.ref p) (upd H1 p (.tup xs.reverse))
theorem pe_revT {X : Cx} {e : Expr} {te : TE} {k : Nat} {p1 p2 p3 pos : Pos} (he : PE X e te) : PE X (.Subscript e (.Slice none none (some (.UnaryOp .USub (.Constant (.int 1) k p1) p2)) p3) pos) (tRevT X.K te) := by
  constructor
  intro pins s σ H Q I h
  refine Subscript_ (thn (he.run pins s σ H _ I h) ?_)
  rintro v s1 ⟨x, H1, I1, r1, a, xs, rfl, hx, q⟩
  cases r1
  have step : PO X (some (.UnaryOp .USub (.Constant (.int 1) k p1) p2)) (tPart (tUn (rU fun i => .int (-i)) (tC (.int 1)))) := po_some (pe_un un_neg pe_int)
  refine wpAny_Slice (thn (po_none.run pins s1 σ H1 (fun o G => o = none ∧ G = H1) I1 ⟨rfl, rfl⟩) ?_)
  rintro vl s2 ⟨_, _, I2, pl, rfl, rfl⟩
  refine thn (po_none.run pins s2 σ _ (fun o G => o = none ∧ G = _) I2 ⟨rfl, rfl⟩) ?_
  rintro vu s3 ⟨_, _, I3, pu, rfl, rfl⟩
  refine thn (step.run pins s3 σ _ (fun o G => o = some (-1) ∧ G = _) I3 ⟨1, rfl, -1, rfl, rfl, rfl⟩) ?_
  rintro vs s4 ⟨_, _, I4, ps, rfl, rfl⟩
  have I5 := I4.kept (t' := s4.toks) (h' := s4.heap.push { cls := .type "slice", data := .fields #[vl, vu, vs] }) fun b ob q => Heap.get?_push_of_some _ q
  obtain ⟨its, r, ht, hz⟩ := I5.tuple hx
  have hlen := r.length
  refine tail_any (ops := [.ref a, .ref s4.heap.objs.size]) ht.typeIs (PyProof.Rows.slot_tuple_getitem.lookup) ?_ (by with_unfolding_all rfl)
  refine getItem_tuple_rev ht (Heap.IsSliceOf.new _ vl vu vs) pl pu ps ?_ (by rw [List.size_toArray]; omega)
  refine ⟨.ref _, _, I5.laid (t' := s4.toks) (o := .tup xs.reverse) (fun b ob z => Heap.get?_push_of_some _ z) (Nat.le_refl _) ?_, rfl, q _ (I5.hok.fresh (Nat.le_refl _))⟩
  refine ⟨by rw [List.length_reverse]; exact hz, _, r.reverse, ?_⟩
  exact IsTup.new _ _
end Zr
end
section
set_option Elab.async false
set_option linter.all false
set_option maxRecDepth 100000
set_option maxHeartbeats 4000000
/-! a tuple that is not empty, as often as a number says: none, once (itself), more often. -/
namespace Zr
open PySem PySem.Spec PyProof.Rows L2
theorem mul_once (l : Addr) (xs : Array Value) (n : Nat) (dd : Option Addr) (sl : Array (Option Value)) (u : Tok) :
    Meets (Builtin.«tuple.__mul__» ⟨[.ref l, .int 1 u], []⟩) (fun _ R s => s.heap.get? l = some { cls := .type "tuple", dict := dd, data := .seq xs n, slots := sl } ∧ R (.ok (.ret (Value.ref l))) s) := by
  refine .of_wp fun prog w A R s h => ?_
  obtain ⟨hp, g, d, tk, os⟩ := s
  obtain ⟨hl, hR⟩ := h
  have i1 := AutoSeq1.idx_int
  have t1 : (xs.isEmpty || (1 : Int) == 1) = true := by simp
  wp_walk using wpAny_loadPart' hl
  exact ⟨_, rfl, hR⟩
theorem mul_none (l : Addr) (xs : Array Value) (n : Nat) (dd : Option Addr) (sl : Array (Option Value)) (k : Int) (u : Tok) (h0 : -(2 ^ 63) ≤ k) (h1 : k ≤ 0) (hx : xs.isEmpty = false) :
    Meets (Builtin.«tuple.__mul__» ⟨[.ref l, .int k u], []⟩) (fun _ R s => s.heap.get? l = some { cls := .type "tuple", dict := dd, data := .seq xs n, slots := sl } ∧
      R (.ok (.ret (Value.ref s.heap.objs.size))) { s with heap := s.heap.push { cls := Value.type "tuple", data := Data.seq #[] } }) := by
  refine .of_wp fun prog w A R s h => ?_
  obtain ⟨hp, g, d, tk, os⟩ := s
  obtain ⟨hl, hR⟩ := h
  have i1 := AutoSeq1.idx_int
  have d0 : ¬ ((decide (k < -2 ^ 63) || decide (k ≥ 2 ^ 63)) = true) := by
    rw [decide_eq_false (by omega), decide_eq_false (by omega)]; decide
  have d1 : ¬ ((xs.isEmpty || k == 1) = true) := by
    rw [hx, Bool.false_or]; intro z; have := eq_of_beq z; omega
  have d2 : (decide (k ≤ 0) || xs.isEmpty) = true := by rw [decide_eq_true h1]; rfl
  wp_walk using wpAny_loadPart' hl
  rw [if_neg d0]
  wp_walk using wpAny_loadPart' hl
  rw [if_neg d1]
  wp_walk using wpAny_loadPart' hl
  exact ⟨_, rfl, hR⟩
/-- a tuple that is not empty, k times -/
def rRepA (K : PySem.W.Frag) : R2 := fun x y H Q => ∃ l k xs, x = .ref l ∧ y = .int k ∧ SqT K H l xs ∧ xs ≠ [] ∧ -1000 ≤ k ∧ k ≤ 1000 ∧ xs.length ≤ 1000 ∧
  (k = 1 → Q (.ref l) H) ∧ (k ≠ 1 → ∀ p, H p = none → Q (.ref p) (upd H p (.tup (List.replicate k.toNat xs).flatten)))
theorem op_repA {X : Cx} : OpR X (binaryOp .Mult) (rRepA X.K) := by
  intro pins s σ H x y v u Q I rx ry h
  obtain ⟨l, k, xs, rfl, rfl, hT, hne, h0, h1, hz, q1, q2⟩ := h
  by_cases hk : 2 ≤ k
  · exact op_repT pins s σ H _ _ v u Q I rx ry ⟨l, k, xs, rfl, rfl, hT, hne, hk, h1, hz, q2 (by omega)⟩
  cases rx
  obtain ⟨t, rfl⟩ := ry
  obtain ⟨its, r, p, _⟩ := I.tuple hT
  obtain ⟨⟨cls, dd, data, sl⟩, ho, hc, n, hd⟩ := p
  simp only at hc hd
  subst hc hd
  have ty : Shared.TypeIs s (.ref l) "tuple" := ⟨_, ho, rfl⟩
  have len : its.length = xs.length := r.length.symm
  have ne : its.toArray.isEmpty = false := by
    cases its with
    | nil => exact absurd (List.eq_nil_of_length_eq_zero len.symm) hne
    | cons a b => rfl
  refine wpAny_binaryOp_repeat_ref (T := "tuple") (U := "int") (by decide) ty (fun z => typeIs_int z k t) noFill_tuple_mul F.fills_int_mul F.slot_int_rmul repeat_tuple F.slot_int_index.lookup ?_
  refine call_meets F.slot_int_rmul (typeIs_int s k t) F.entry_int_rmul (F.args_int_rmul_2 _ _) (int_rmul_tuple k t l its.toArray n dd sl) ⟨ho, rfl, ty, ?_⟩
  by_cases h : k = 1
  · subst h
    exact call_meets F.slot_tuple_mul ty F.entry_tuple_mul (F.args_tuple_mul_2 _ _) (mul_once l its.toArray n dd sl t) ⟨ho, .ref l, H, I, rfl, q1 rfl⟩
  · have e0 : List.replicate k.toNat xs = [] := by rw [show k.toNat = 0 by omega]; rfl
    have q3 := q2 h
    rw [e0] at q3
    refine call_meets F.slot_tuple_mul ty F.entry_tuple_mul (F.args_tuple_mul_2 _ _) (mul_none l its.toArray n dd sl k t (by omega) (by omega) ne) ⟨ho, ?_⟩
    refine ⟨.ref s.heap.objs.size, _, I.laid (t' := s.toks) (o := .tup []) (fun b ob z => Heap.get?_push_of_some _ z) (Nat.le_refl _) ?_, rfl, q3 _ (I.hok.fresh (Nat.le_refl _))⟩
    exact ⟨Nat.zero_le _, [], .nil, IsTup.new _ _⟩
end Zr
end
section
set_option Elab.async false
set_option linter.all false
set_option maxRecDepth 100000
/-! zip; tuples as often as a number says, turned about; is of flags; data as any things. -/
namespace Zq
open PySem PySem.Spec PyProof.Rows L2
open Rep (rep)
section
variable {c : Cc} {env : Env'} {M : Mem} {α β γ : Type} [Rep α] [Rep β] [Rep γ] {ta tb te : TE} {P : Dy → Mem → Prop} {k : Nat}
theorem rr_repA {xs : Tp α} {n : Int} (h0 : xs.l ≠ []) (h1 : -1000 ≤ n) (h2 : n ≤ 1000) (h3 : xs.l.length ≤ 1000) (p : P (dy (Tp.mk (List.replicate n.toNat xs.l).flatten)) M) : RR c (Zr.rRepA c.K) (dy xs) (dy n) M P := fun as W v w Q m r1 r2 k => by
  obtain ⟨a, vs, rfl, hs, hr⟩ := r1
  obtain rfl : w = .int n := r2
  have hl := hr.length
  refine ⟨a, n, vs, rfl, rfl, sqT_mono m.ex hs, fun z => h0 (by rw [z] at hl; exact List.length_eq_zero_iff.mp hl.symm), h1, h2, by omega, fun e => ?_, fun _ => ?_⟩
  · subst e
    have e1 : (List.replicate (1 : Int).toNat xs.l).flatten = xs.l := by simp
    rw [e1] at p
    exact k _ as W (dy (Tp.mk xs.l)) M (.refl _ _) m ⟨a, vs, rfl, hs, hr⟩ p
  · have rr : ∀ j : Nat, RepL c W.F as (List.replicate j vs).flatten (List.replicate j xs.l).flatten := by
      intro j
      induction j with
      | zero => exact .nil
      | succ j ih => rw [List.replicate_succ, List.replicate_succ, List.flatten_cons, List.flatten_cons]; exact hr.append ih
    exact new_obj (z := dy (Tp.mk (List.replicate n.toNat xs.l).flatten)) m (fun p F' hp e => ⟨p, _, rfl, sqt_of hp, RepL.mono e (List.prefix_refl _) (rr _)⟩) k p
theorem RepL.reverse {F : Hp} {as : List Addr} : ∀ {vs : List V} {xs : List α}, RepL c F as vs xs → RepL c F as vs.reverse xs.reverse
  | _, _, .nil => .nil
  | _, _, .cons r t => by rw [List.reverse_cons, List.reverse_cons]; exact RepL.append (RepL.reverse t) (.cons r .nil)
theorem we_revT (h : WE c te env M (As (Tp α) fun xs m => P (dy (Tp.mk xs.l.reverse)) m)) : WE c (Zr.tRevT c.K te) env M P := fun as σ w Q s q =>
  h as σ w _ s fun v as1 w1 d m1 st1 mm1 r1 p1 => by
    obtain ⟨xs, rfl, p1⟩ := p1
    obtain ⟨a, vs, rfl, hs, hr⟩ := r1
    refine ⟨a, vs, rfl, sqT_mono mm1.ex hs, ?_⟩
    exact new_obj (z := dy (Tp.mk xs.l.reverse)) mm1 (fun p F' hp e => ⟨p, _, rfl, sqt_of hp, RepL.mono e (List.prefix_refl _) hr.reverse⟩) (fun u as' w' z M' st' m r p => q u as' w' z M' (st1.trans st') m r p) p1
theorem rr_isTrue {b : Bool} (p : P (dy b) M) : RR c rIsB (dy b) (dy true) M P := rr_pure (fun as W v w Q m r1 r2 k => by
  obtain rfl : v = .bl b := r1
  obtain rfl : w = .bl true := r2
  exact ⟨b, true, rfl, rfl, k _ (show _ = V.bl b by cases b <;> rfl)⟩) p
theorem rr_notTrue {b : Bool} (p : P (dy (!b)) M) : RR c rNotB (dy b) (dy true) M P := rr_pure (fun as W v w Q m r1 r2 k => by
  obtain rfl : v = .bl b := r1
  obtain rfl : w = .bl true := r2
  exact ⟨b, true, rfl, rfl, k _ (show _ = V.bl (!b) by cases b <;> rfl)⟩) p
/-! ### zip -/
theorem zip_step {as : List Addr} {w : Hw} {v v1 v2 : V} {H2 : Hp} {T : Addr} {x : α} {y : β} (m : MemOk c as w M) (hT : w.H T = none) (e : H2 = upd w.H T (.tup [v1, v2])) (hv : v = .ref T) (h1 : rep c w.F as v1 x) (h2 : rep c w.F as v2 y) :
    ∃ F2, Step as w as ⟨F2, H2⟩ ∧ MemOk c as ⟨F2, H2⟩ M ∧ (dy (x, y)).h c F2 as v := by
  subst e hv
  obtain ⟨F, H⟩ := w
  obtain ⟨st, m'⟩ := MemOk.new (o := .tup [v1, v2]) m hT
  exact ⟨_, st, m', T, v1, v2, rfl, sqt_of upd_same, Rep.mono (x := x) st.ex st.pre h1, Rep.mono (x := y) st.ex st.pre h2⟩
theorem walks_zip {t1 t2 : Bool} {as : List Addr} {w : Hw} {a b : Addr} {vs ws : List V} {xs : List α} {ys : List β} (h1 : ∀ {H : Hp}, Ex w.F H → Zr.SqX t1 c.K H a vs) (h2 : ∀ {H : Hp}, Ex w.F H → Zr.SqX t2 c.K H b ws) (r1 : RepL c w.F as vs xs) (r2 : RepL c w.F as ws ys) :
    Walks c (Zr.ItZ t1 t2 c.K a b) as w ((xs.zip ys).map dy) := by
  have l1 := r1.length
  have l2 := r2.length
  have lz : ((xs.zip ys).map (dy (α := α × β))).length = min xs.length ys.length := by rw [List.length_map, List.length_zip]
  refine ⟨fun i as' w' M' st m h => ?_, fun i as' w' M' st m h => ?_, fun i as' w' x v H2 M' st m h hy => ?_⟩
  · rw [lz] at h
    exact ⟨vs, ws, vs[i]'(by omega), ws[i]'(by omega), h1 (st.ex.trans m.ex), h2 (st.ex.trans m.ex), List.getElem?_eq_getElem _, List.getElem?_eq_getElem _⟩
  · rw [lz] at h
    exact ⟨vs, ws, h1 (st.ex.trans m.ex), h2 (st.ex.trans m.ex), by omega⟩
  · obtain ⟨T, v1, v2, hv, hT, hH, g1, g2⟩ := hy
    have e1 := g1 vs (h1 (st.ex.trans m.ex))
    have e2 := g2 ws (h2 (st.ex.trans m.ex))
    obtain ⟨y1, q1, z1⟩ := r1.getV e1
    obtain ⟨y2, q2, z2⟩ := r2.getV e2
    have e3 : (xs.zip ys)[i]? = some (y1, y2) := List.getElem?_zip_eq_some.mpr ⟨q1, q2⟩
    rw [List.getElem?_map, e3] at h
    cases h
    exact zip_step m hT hH hv (Rep.mono (x := y1) st.ex st.pre z1) (Rep.mono (x := y2) st.ex st.pre z2)
theorem RepDs.two_inv {F : Hp} {as : List Addr} {vs : List V} {x y : Dy} (h : RepDs c F as vs [x, y]) : ∃ v u, vs = [v, u] ∧ x.h c F as v ∧ y.h c F as u := by
  cases h with
  | cons r t => cases t with
    | cons r2 t2 => cases t2; exact ⟨_, _, rfl, r, r2⟩
theorem wi_zipTT {t : TA} {Q : List Dy → Mem → Prop} (h : WA c t env M fun ds m => ∃ (xs : Tp α) (ys : Tp β), ds = [dy xs, dy ys] ∧ Q ((xs.l.zip ys.l).map dy) m) : WI c (Zr.iZipX true true c.K t) env M Q := fun as σ w R s q =>
  h as σ w _ s fun vs as1 w1 ds m st mm r p => by
    obtain ⟨xs, ys, rfl, p⟩ := p
    obtain ⟨v, u, rfl, ⟨a, us, rfl, hs, hr⟩, ⟨b, ws, rfl, ht, hq⟩⟩ := RepDs.two_inv r
    exact ⟨a, b, us, ws, rfl, sqT_mono mm.ex hs, sqT_mono mm.ex ht, q _ as1 w1 _ m st mm (walks_zip (fun e => sqT_mono e hs) (fun e => sqT_mono e ht) hr hq) p⟩
theorem wi_zipTL {t : TA} {Q : List Dy → Mem → Prop} (h : WA c t env M fun ds m => ∃ (xs : Tp α) (ys : List β), ds = [dy xs, dy ys] ∧ Q ((xs.l.zip ys).map dy) m) : WI c (Zr.iZipX true false c.K t) env M Q := fun as σ w R s q =>
  h as σ w _ s fun vs as1 w1 ds m st mm r p => by
    obtain ⟨xs, ys, rfl, p⟩ := p
    obtain ⟨v, u, rfl, ⟨a, us, rfl, hs, hr⟩, ⟨b, ws, rfl, ht, hq⟩⟩ := RepDs.two_inv r
    exact ⟨a, b, us, ws, rfl, sqT_mono mm.ex hs, sqL_mono mm.ex ht, q _ as1 w1 _ m st mm (walks_zip (fun e => sqT_mono e hs) (fun e => sqL_mono e ht) hr hq) p⟩
theorem wi_zipLL {t : TA} {Q : List Dy → Mem → Prop} (h : WA c t env M fun ds m => ∃ (xs : List α) (ys : List β), ds = [dy xs, dy ys] ∧ Q ((xs.zip ys).map dy) m) : WI c (Zr.iZipX false false c.K t) env M Q := fun as σ w R s q =>
  h as σ w _ s fun vs as1 w1 ds m st mm r p => by
    obtain ⟨xs, ys, rfl, p⟩ := p
    obtain ⟨v, u, rfl, ⟨a, us, rfl, hs, hr⟩, ⟨b, ws, rfl, ht, hq⟩⟩ := RepDs.two_inv r
    exact ⟨a, b, us, ws, rfl, sqL_mono mm.ex hs, sqL_mono mm.ex ht, q _ as1 w1 _ m st mm (walks_zip (fun e => sqL_mono e hs) (fun e => sqL_mono e ht) hr hq) p⟩
end
/-! ### data as any things -/
class IsTh (α : Type) [Rep α] where
  to : α → Th
  eq : ∀ x : α, dy (to x) = dy x
open IsTh (to)
theorem to_rp {α : Type} [Rep α] [IsTh α] {c : Cc} {F : Hp} {as : List Addr} {v : V} (x : α) : rep c F as v (to x) ↔ rep c F as v x := by
  have e := congrArg Dy.h (IsTh.eq x)
  have e2 := congrFun (congrFun (congrFun (congrFun e c) F) as) v
  exact Eq.to_iff e2
theorem to_ok {α : Type} [Rep α] [IsTh α] (x : α) (k : Nat) : Rep.ok x k := by
  have e := congrFun (congrArg Dy.ok (IsTh.eq x)) k
  exact (Eq.to_iff e).mp trivial
theorem to_l {α : Type} [Rep α] [IsTh α] {c : Cc} {F : Hp} {as : List Addr} : ∀ {vs : List V} {xs : List α}, RepL c F as vs (xs.map to) ↔ RepL c F as vs xs
  | vs, [] => ⟨fun h => by cases h; exact .nil, fun h => by cases h; exact .nil⟩
  | vs, x :: xs => by
    constructor
    · intro h
      cases h with
      | cons r t => exact .cons ((to_rp x).mp r) (to_l.mp t)
    · intro h
      cases h with
      | cons r t => exact .cons ((to_rp x).mpr r) (to_l.mpr t)
theorem to_okL {α : Type} [Rep α] [IsTh α] (k : Nat) : ∀ xs : List α, okL k xs
  | [] => trivial
  | x :: xs => ⟨to_ok x k, to_okL k xs⟩
theorem to_map {α : Type} [Rep α] [IsTh α] (xs : List α) : dy (xs.map to) = dy xs := Dy.ext' (fun c F as v => by
  show (∃ a vs, v = .ref a ∧ SqL c.K F a vs ∧ RepL c F as vs (xs.map to)) ↔ ∃ a vs, v = .ref a ∧ SqL c.K F a vs ∧ RepL c F as vs xs
  simp only [to_l]) fun k => ⟨fun _ => to_okL k xs, fun _ => Free.l k _⟩
theorem to_mapT {α : Type} [Rep α] [IsTh α] (xs : List α) : dy (Tp.mk (xs.map to)) = dy (Tp.mk xs) := Dy.ext' (fun c F as v => by
  show (∃ a vs, v = .ref a ∧ SqT c.K F a vs ∧ RepL c F as vs (xs.map to)) ↔ ∃ a vs, v = .ref a ∧ SqT c.K F a vs ∧ RepL c F as vs xs
  simp only [to_l]) fun k => ⟨fun _ => to_okL k xs, fun _ => Free.l k _⟩
instance : IsTh Th := ⟨id, fun _ => rfl⟩
instance : IsTh Int := ⟨.int, th_int⟩
instance : IsTh Bool := ⟨.bl, th_bl⟩
instance : IsTh Unit := ⟨fun _ => .non, fun _ => th_non⟩
instance : IsTh Str := ⟨.str, th_str⟩
instance : IsTh Tab := ⟨.tab, th_tab⟩
instance {α : Type} [Rep α] [IsTh α] : IsTh (List α) := ⟨fun xs => .lst (xs.map to), fun xs => (th_lst _).trans (to_map xs)⟩
instance {α : Type} [Rep α] [IsTh α] : IsTh (Tp α) := ⟨fun xs => .tup (xs.l.map to), fun xs => (th_tup _).trans (to_mapT xs.l)⟩
theorem th_two (a b : Th) : dy (Th.tup [a, b]) = dy (a, b) := by
  rw [th_tup]
  refine Dy.ext' (fun c F as v => ⟨?_, ?_⟩) fun k => ⟨fun _ => ⟨trivial, trivial⟩, fun _ => Free.l k _⟩
  · rintro ⟨p, vs, rfl, h, r⟩
    cases r with
    | cons r1 t => cases t with
      | cons r2 t => cases t; exact ⟨p, _, _, rfl, h, r1, r2⟩
  · rintro ⟨p, v1, v2, rfl, h, r1, r2⟩
    exact ⟨p, _, rfl, h, .cons r1 (.cons r2 .nil)⟩
theorem th_three (a b d : Th) : dy (Th.tup [a, b, d]) = dy (T3.mk a b d) := by
  rw [th_tup]
  refine Dy.ext' (fun c F as v => ⟨?_, ?_⟩) fun k => ⟨fun _ => ⟨trivial, trivial, trivial⟩, fun _ => Free.l k _⟩
  · rintro ⟨p, vs, rfl, h, r⟩
    cases r with
    | cons r1 t => cases t with
      | cons r2 t => cases t with
        | cons r3 t => cases t; exact ⟨p, _, _, _, rfl, h, r1, r2, r3⟩
  · rintro ⟨p, v1, v2, v3, rfl, h, r1, r2, r3⟩
    exact ⟨p, _, rfl, h, .cons r1 (.cons r2 (.cons r3 .nil))⟩
instance {α β : Type} [Rep α] [Rep β] [IsTh α] [IsTh β] : IsTh (α × β) := ⟨fun x => .tup [to x.1, to x.2], fun x => (th_two _ _).trans (Dy.ext' (fun c F as v => by
  show (∃ a v1 v2, v = .ref a ∧ SqT c.K F a [v1, v2] ∧ rep c F as v1 (to x.1) ∧ rep c F as v2 (to x.2)) ↔ ∃ a v1 v2, v = .ref a ∧ SqT c.K F a [v1, v2] ∧ rep c F as v1 x.1 ∧ rep c F as v2 x.2
  simp only [to_rp]) fun k => ⟨fun _ => ⟨to_ok x.1 k, to_ok x.2 k⟩, fun _ => ⟨trivial, trivial⟩⟩)⟩
instance {α β γ : Type} [Rep α] [Rep β] [Rep γ] [IsTh α] [IsTh β] [IsTh γ] : IsTh (T3 α β γ) := ⟨fun x => .tup [to x.a, to x.b, to x.c], fun x => (th_three _ _ _).trans (Dy.ext' (fun c F as v => by
  show (∃ a v1 v2 v3, v = .ref a ∧ SqT c.K F a [v1, v2, v3] ∧ rep c F as v1 (to x.a) ∧ rep c F as v2 (to x.b) ∧ rep c F as v3 (to x.c)) ↔ ∃ a v1 v2 v3, v = .ref a ∧ SqT c.K F a [v1, v2, v3] ∧ rep c F as v1 x.a ∧ rep c F as v2 x.b ∧ rep c F as v3 x.c
  simp only [to_rp]) fun k => ⟨fun _ => ⟨to_ok x.a k, to_ok x.b k, to_ok x.c k⟩, fun _ => ⟨trivial, trivial, trivial⟩⟩)⟩
/-! ### how wide a thing is -/
mutual
def Th.wid (B : Nat) : Th → Prop
  | .tup l => l.length ≤ B ∧ Th.wids B l
  | .lst l => l.length ≤ B ∧ Th.wids B l
  | _ => True
def Th.wids (B : Nat) : List Th → Prop
  | [] => True
  | x :: xs => Th.wid B x ∧ Th.wids B xs
end
theorem wids_iff {B : Nat} : ∀ {l : List Th}, Th.wids B l ↔ ∀ x, x ∈ l → x.wid B
  | [] => by simp [Th.wids]
  | y :: ys => by simp [Th.wids, wids_iff (l := ys)]
mutual
theorem Th.wid_mono {B C : Nat} (h : B ≤ C) : ∀ x : Th, x.wid B → x.wid C
  | .tup l, w => by simp only [Th.wid] at w ⊢; exact ⟨by omega, Th.wids_mono h l w.2⟩
  | .lst l, w => by simp only [Th.wid] at w ⊢; exact ⟨by omega, Th.wids_mono h l w.2⟩
  | .non, _ => by simp [Th.wid]
  | .bl _, _ => by simp [Th.wid]
  | .int _, _ => by simp [Th.wid]
  | .str _, _ => by simp [Th.wid]
  | .dic, _ => by simp [Th.wid]
  | .tab _, _ => by simp [Th.wid]
theorem Th.wids_mono {B C : Nat} (h : B ≤ C) : ∀ l : List Th, Th.wids B l → Th.wids C l
  | [], _ => by simp [Th.wids]
  | x :: xs, w => by simp only [Th.wids] at w ⊢; exact ⟨Th.wid_mono h x w.1, Th.wids_mono h xs w.2⟩
end
theorem wid_tup {B : Nat} {l : List Th} : (Th.tup l).wid B ↔ l.length ≤ B ∧ ∀ x, x ∈ l → x.wid B := by simp only [Th.wid, wids_iff]
theorem wid_lst {B : Nat} {l : List Th} : (Th.lst l).wid B ↔ l.length ≤ B ∧ ∀ x, x ∈ l → x.wid B := by simp only [Th.wid, wids_iff]
theorem wid_int {B : Nat} (i : Int) : (Th.int i).wid B := by simp [Th.wid]
end Zq
end
section
set_option Elab.async false
set_option linter.all false
set_option maxRecDepth 100000
/-! + of two lists, wherever they stand. -/
namespace Zr
open PySem PySem.Spec PyProof.Rows L2
def rCatL (K : PySem.W.Frag) : R2 := fun x y H Q => ∃ l b xs zs, x = .ref l ∧ y = .ref b ∧ SqL K H l xs ∧ SqL K H b zs ∧ xs.length + zs.length ≤ sizeLine ∧ ∀ p, H p = none → Q (.ref p) (upd H p (.lst (xs ++ zs)))
theorem op_catL {X : Cx} : OpR X (binaryOp .Add) (rCatL X.K) := by
  intro pins s σ H x y v u Q I rx ry h
  obtain ⟨l, b, xs, zs, rfl, rfl, h1, h2, hz, q⟩ := h
  cases rx
  cases ry
  obtain ⟨i1, r1, p1, _⟩ := I.list h1
  obtain ⟨i2, r2, p2, _⟩ := I.list h2
  have l1 := r1.length
  have l2 := r2.length
  obtain ⟨⟨c1, d1, a1, s1⟩, e1, f1, n1, g1⟩ := p1.isList
  obtain ⟨⟨c2, d2, a2, s2⟩, e2, f2, n2, g2⟩ := p2.isList
  simp only at f1 g1 f2 g2
  subst f1 g1 f2 g2
  refine concat_meets ⟨_, e1, rfl⟩ ⟨_, e2, rfl⟩ noFill_list_add seq_list_add PySem.F.slot_list_add PySem.F.entry_list_add (PySem.F.args_list_add_2 _ _) (list_addW l b i1.toArray i2.toArray n1 n2 d1 d2 s1 s2 (by rw [List.size_toArray, List.size_toArray]; omega)) ⟨e1, e2, ?_⟩
  have ea : i1.toArray ++ i2.toArray = (i1 ++ i2).toArray := by simp
  rw [ea]
  exact ⟨.ref _, _, I.lnew (t' := s.toks) (r1.append r2) (by rw [List.length_append]; omega), rfl, q _ I.fresh⟩
end Zr
end
section
set_option Elab.async false
set_option linter.all false
set_option maxRecDepth 100000
/-! + of lists that don't change; two names set at once. -/
namespace Zq
open PySem PySem.Spec PyProof.Rows L2
open Rep (rep)
section
variable {c : Cc} {env : Env'} {M : Mem} {α β γ : Type} [Rep α] [Rep β] [Rep γ] {ta tb te : TE} {P : Dy → Mem → Prop} {k : Nat} {nx : Env' → Mem → Prop} {rt : Dy → Mem → Prop}
theorem rr_catL {xs ys : List α} (hl : xs.length + ys.length ≤ 100000) (p : P (dy (xs ++ ys)) M) : RR c (Zr.rCatL c.K) (dy xs) (dy ys) M P := fun as W v w Q m r1 r2 k => by
  obtain ⟨a, vs, rfl, hs, hr⟩ := r1
  obtain ⟨b, ws, rfl, ht, hq⟩ := r2
  exact ⟨a, b, vs, ws, rfl, rfl, sqL_mono m.ex hs, sqL_mono m.ex ht, small_le (by rw [hr.length, hq.length]; exact hl), new_obj (z := dy (xs ++ ys)) m (fun p F' hp e => ⟨p, _, rfl, sql_of hp, RepL.mono e (List.prefix_refl _) (hr.append hq)⟩) k p⟩
theorem rc_len3 {x : T3 α β γ} (p : P (dy (3 : Int)) M) : RC c (rLen c.K) [dy x] M P := rc_pure (fun as W vs Q m r k => by
  obtain ⟨v, rfl, a, v1, v2, v3, rfl, hs, _⟩ := r.one
  exact ⟨a, [v1, v2, v3], rfl, .inr (sqT_mono m.ex hs), k _ rfl⟩) p
theorem rc_lstTF {xs : Tp α} (p : P (dy xs.l) M) : RC c (rLst c.K) [dy xs] M P := fun as W vs Q m r k => by
  obtain ⟨v, rfl, a, ws, rfl, hs, hr⟩ := r.one
  exact ⟨a, ws, rfl, .inr (sqT_mono m.ex hs), new_obj (z := dy xs.l) m (fun p F' hp e => ⟨p, _, rfl, sql_of hp, RepL.mono e (List.prefix_refl _) hr⟩) k p⟩
theorem ws_par {i j : Nat} {t : TA} (h : WA c t env M fun ds m => ∃ x y : Dy, ds = [x, y] ∧ nx ((env.set i (some x)).set j (some y)) m) : WS c k (tPar i j t) env M nx rt := fun as σ w D s q1 q2 =>
  h as σ w _ s fun vs as1 w1 ds m st mm r p => by
    obtain ⟨x, y, rfl, p⟩ := p
    obtain ⟨v, u, rfl, r1, r2⟩ := RepDs.two_inv r
    have sa := s.step st mm
    exact ⟨v, u, rfl, q1 _ _ as1 _ w1 st ⟨(sa.sl.set i r1).set j r2, mm⟩ p⟩
theorem map_eq_all {δ : Type} {f g : δ → Int} : ∀ xs : List δ, decide (xs.map f = xs.map g) = xs.all fun v => decide (f v = g v)
  | [] => rfl
  | x :: xs => by
    rw [List.map_cons, List.map_cons, List.all_cons, ← map_eq_all xs]
    by_cases h1 : f x = g x
    · by_cases h2 : xs.map f = xs.map g
      · rw [decide_eq_true h1, decide_eq_true h2, decide_eq_true (by rw [h1, h2])]; rfl
      · rw [decide_eq_true h1, decide_eq_false h2, decide_eq_false fun e => h2 (List.cons.inj e).2]; rfl
    · rw [decide_eq_false h1, decide_eq_false fun e => h1 (List.cons.inj e).1]; rfl
theorem map_ne_any {δ : Type} {f g : δ → Int} (xs : List δ) : (!decide (xs.map f = xs.map g)) = xs.any fun v => !decide (f v = g v) := by
  rw [map_eq_all, List.not_all_eq_any_not]
theorem fold_app {δ ε : Type} (g : δ → ε) : ∀ (xs : List δ) (s : List ε), xs.foldl (fun s p => s ++ [g p]) s = s ++ xs.map g
  | [], s => by simp
  | x :: xs, s => by rw [List.foldl_cons, fold_app g xs, List.map_cons, List.append_assoc]; rfl
theorem rep_one {δ : Type} (a : δ) : ∀ k : Nat, (List.replicate k [a]).flatten = List.replicate k a
  | 0 => rfl
  | k + 1 => by rw [List.replicate_succ, List.flatten_cons, rep_one a k, List.replicate_succ]; rfl
theorem cut_ahead {δ : Type} (xs : List δ) {i : Int} (h : 0 ≤ i) : cutL xs none (some i) = xs.take i.toNat := by
  unfold cutL HT.sIx
  simp only [List.drop_zero, Nat.sub_zero]
  rw [if_neg (by omega)]
  by_cases hl : i.toNat ≤ xs.length
  · rw [Nat.min_eq_left hl]
  · rw [Nat.min_eq_right (by omega), List.take_of_length_le (Nat.le_refl _), List.take_of_length_le (by omega)]
theorem cut_behind {δ : Type} (xs : List δ) {i : Int} (h : 0 ≤ i) : cutL xs (some i) none = xs.drop i.toNat := by
  unfold cutL HT.sIx
  simp only
  rw [if_neg (by omega)]
  by_cases hl : i.toNat ≤ xs.length
  · rw [Nat.min_eq_left hl, List.take_of_length_le (by rw [List.length_drop]; omega)]
  · rw [Nat.min_eq_right (by omega), List.drop_of_length_le (Nat.le_refl _), List.drop_of_length_le (by omega)]; simp
theorem cut_last {δ : Type} (xs : List δ) : cutL xs none (some (-1)) = xs.take (xs.length - 1) := by
  unfold cutL HT.sIx
  simp only [List.drop_zero, Nat.sub_zero]
  rw [if_pos (by decide)]
  congr 1
  omega
end
end Zq
end
section
set_option Elab.async false
set_option linter.all false
set_option maxRecDepth 100000
/-! one of two numbers; None or a thing. -/
namespace Zq
open PySem PySem.Spec PyProof.Rows L2
open Rep (rep)
section
variable {c : Cc} {env : Env'} {M : Mem} {α β γ : Type} [Rep α] [Rep β] [Rep γ] {ta tb te : TE} {P : Dy → Mem → Prop} {k : Nat} {nx : Env' → Mem → Prop} {rt : Dy → Mem → Prop}
theorem we_ifR {t : TT} {x y : Int} (ht : WT c t env M fun _ m => m = M) (h : ∀ z : Int, z = x ∨ z = y → P (dy z) M) : WE c (tIf t (tC (.int x)) (tC (.int y))) env M P := we_if (WT.mono ht fun b m e => by
  subst e
  exact ⟨fun _ => we_int (h x (.inl rfl)), fun _ => we_int (h y (.inr rfl))⟩)
theorem rr_neB {x y : Bool} (p : P (dy (!decide (x = y))) M) : RR c rNe (dy x) (dy y) M P :=
  rr_pure (fun as W v w Q m r1 r2 k => by
    obtain rfl : v = .bl x := r1
    obtain rfl : w = .bl y := r2
    exact ⟨rfl, by rw [dec_bl]; exact k _ rfl⟩) p
theorem dy_none : dy (none : Option α) = dy () := rfl
theorem dy_some (x : α) : dy (some x) = dy x := rfl
theorem rr_isNo [Some1 α] {o : Option α} (p : P (dy o.isNone) M) : RR c rIsN (dy o) (dy ()) M P := by
  cases o with
  | none => exact rr_isN0 p
  | some x => exact rr_isN (x := x) p
theorem rr_notNo [Some1 α] {o : Option α} (p : P (dy o.isSome) M) : RR c rNotN (dy o) (dy ()) M P := by
  cases o with
  | none => exact rr_notN0 p
  | some x => exact rr_notN (x := x) p
theorem told_of {o : Option α} {w : α} {L : Prop} (h0 : L → o = none) (h1 : ¬ L → o = some w) (h : P (dy o) M) : (L → P (dy ()) M) ∧ (¬ L → P (dy w) M) := ⟨fun e => by rw [h0 e] at h; exact h, fun e => by rw [h1 e] at h; exact h⟩
end
end Zq
end
section
set_option Elab.async false
set_option linter.all false
set_option maxRecDepth 100000
namespace K03
open PySem PySem.Spec PyProof.Rows L2 Zq
def top (i : Nat) : Stmt := PySem.Challenge.pw_laidplates_k03_whole_worlds_that_part.main.body.getD i (.Pass ⟨0, 0, 0, 0⟩)
abbrev s_is_integer : Stmt := top 7
abbrev s_is_number_below : Stmt := top 8
abbrev s_is_lot : Stmt := top 9
abbrev s_is_lot_of_cells : Stmt := top 10
abbrev s_is_kind : Stmt := top 18
abbrev s_is_journal : Stmt := top 19
abbrev s_check_journal : Stmt := top 20
abbrev s_fresh : Stmt := top 21
abbrev s_last_versions : Stmt := top 22
abbrev s_source_rows : Stmt := top 24
abbrev s_is_plates : Stmt := top 26
abbrev s_is_version : Stmt := top 27
abbrev s_check_plates : Stmt := top 28
abbrev s_last_behind : Stmt := top 23
abbrev s_rows_behind : Stmt := top 25
abbrev s_derived_marks : Stmt := top 30
abbrev s__law_hand : Stmt := top 38
abbrev s__law_draw : Stmt := top 39
abbrev s__law_any : Stmt := top 40
abbrev s__law_is_int : Stmt := top 41
abbrev s__law_flag : Stmt := top 42
abbrev s__law_kinds : Stmt := top 45
abbrev s__law_history : Stmt := top 46
abbrev s__law_closure : Stmt := top 47
abbrev s__law_lost : Stmt := top 48
abbrev s__law_with : Stmt := top 49
abbrev s__law_table : Stmt := top 50
abbrev s__law_journal : Stmt := top 51
abbrev s__law_versions : Stmt := top 52
abbrev s__law_plates : Stmt := top 53
abbrev s_is_bits : Stmt := top 11
abbrev s_is_functions : Stmt := top 33
abbrev s_bits_by_version : Stmt := top 34
abbrev s_bits_of : Stmt := top 32
abbrev s_is_parting : Stmt := top 36
abbrev s_parting : Stmt := top 35
abbrev s__law_deep : Stmt := top 43
abbrev s__law_odd : Stmt := top 44
abbrev s__law_bits : Stmt := top 54
abbrev s__law_are_bits : Stmt := top 55
abbrev s__law_has_form : Stmt := top 56
abbrev s__law_parts : Stmt := top 57
abbrev s__law_drawn : Stmt := top 58
abbrev s__law_bent : Stmt := top 59
abbrev s_law : Stmt := top 60
abbrev s_Table_init : Stmt := inClass (top 17) 0
structure Tb (mg : Str → Option Value) : Prop where
  b_abs : mg "abs" = none
  b_all : mg "all" = none
  b_any : mg "any" = none
  b_bool : mg "bool" = none
  b_dict : mg "dict" = none
  b_enumerate : mg "enumerate" = none
  b_int : mg "int" = none
  b_isinstance : mg "isinstance" = none
  b_len : mg "len" = none
  b_list : mg "list" = none
  b_range : mg "range" = none
  b_set : mg "set" = none
  b_sorted : mg "sorted" = none
  b_tuple : mg "tuple" = none
  b_zip : mg "zip" = none
  c_MOST_CELLS : ∃ u, mg "MOST_CELLS" = some u ∧ RelV (.int 8) u
  c_MOST_KINDS : ∃ u, mg "MOST_KINDS" = some u ∧ RelV (.int 40) u
  c_MOST_READS : ∃ u, mg "MOST_READS" = some u ∧ RelV (.int 3) u
  c_MOST_DEEDS : ∃ u, mg "MOST_DEEDS" = some u ∧ RelV (.int 400) u
structure Tx (c : Cc) : Prop where
  cl : Cls c.K (c.cls "Table")
  nc : NoAttr c.K (c.cls "Table") "cells"
  nk : NoAttr c.K (c.cls "Table") "kinds"
  isi : IsI c
theorem ps_dead {X : Cx} {st : Stmt} : PS X st tNever := ⟨fun _ _ _ _ _ _ h => h.elim⟩
theorem kit_ii : kitB "int" "int" = some true := by decide +kernel
theorem kit_ib : kitB "int" "bool" = some false := by decide +kernel
theorem kit_bb : kitB "bool" "bool" = some true := by decide +kernel
theorem kit_tt : kitB "tuple" "tuple" = some true := by decide +kernel
end K03
end
section
set_option Elab.async false
set_option linter.all false
set_option maxRecDepth 100000
/-! What k02 knows of journals: its mirror, in lists. -/
namespace K02
open Zq
/-! ### small things about lists -/
theorem nums_snoc {α : Type} (xs : List α) (x : α) : nums (xs ++ [x]) = nums xs ++ [((xs.length : Int), x)] := by
  unfold nums upto
  rw [List.length_append, List.length_cons, List.length_nil, List.range_succ, List.map_append, List.zip_append (by simp)] <;> rfl
theorem nums_mem {α : Type} [Rep α] {xs : List α} {i : Int} {x : α} (h : (i, x) ∈ nums xs) : 0 ≤ i ∧ i < (xs.length : Int) ∧ xs[i.toNat]? = some x := by
  obtain ⟨n, hn⟩ := List.mem_iff_getElem?.mp h
  have hl : n < xs.length := by
    have := (List.getElem?_eq_some_iff.mp hn).1
    rw [nums_len] at this; exact this
  have := nums_get (List.getElem?_eq_getElem hl)
  rw [hn] at this
  have e := Option.some.inj this
  have e1 : i = (n : Int) := congrArg Prod.fst e
  have e2 : x = xs[n] := congrArg Prod.snd e
  subst e1 e2
  exact ⟨by omega, by omega, by simp [hl]⟩
theorem nums_in {α : Type} [Rep α] {xs : List α} {i : Nat} {x : α} (h : xs[i]? = some x) : ((i : Int), x) ∈ nums xs := List.mem_of_getElem? (nums_get h)
theorem nums_split {α : Type} [Rep α] {xs : List α} {pre post : List (Int × α)} {y : Int × α} (e : nums xs = pre ++ y :: post) : y.1 = (pre.length : Int) ∧ pre.length < xs.length ∧ xs[pre.length]? = some y.2 ∧ y.2 ∈ xs := by
  have h1 : (nums xs)[pre.length]? = some y := by rw [e, List.getElem?_append_right (Nat.le_refl _), Nat.sub_self]; rfl
  have hl : pre.length < xs.length := by
    have := (List.getElem?_eq_some_iff.mp h1).1
    rw [nums_len] at this; exact this
  have h2 := nums_get (List.getElem?_eq_getElem hl)
  rw [h1] at h2
  have h3 := Option.some.inj h2
  refine ⟨congrArg Prod.fst h3, hl, ?_, ?_⟩
  · rw [List.getElem?_eq_getElem hl, congrArg Prod.snd h3]
  · rw [congrArg Prod.snd h3]; exact List.getElem_mem hl
theorem getD_get {xs : List Int} {i : Nat} (h : i < xs.length) : xs[i]? = some (xs.getD i 0) := by
  rw [List.getD_eq_getElem?_getD, List.getElem?_eq_getElem h] <;> rfl
theorem upto_mem {n : Nat} {i : Int} : i ∈ upto n ↔ 0 ≤ i ∧ i < n := by
  unfold upto
  rw [List.mem_map]
  constructor
  · rintro ⟨k, hk, rfl⟩
    have := List.mem_range.mp hk
    omega
  · rintro ⟨h0, h1⟩
    exact ⟨i.toNat, List.mem_range.mpr (by omega), by omega⟩
theorem upto_get {n i : Nat} (h : i < n) : (upto n)[i]? = some (i : Int) := by
  unfold upto
  rw [List.getElem?_map, List.getElem?_range h] <;> rfl
theorem asc_uniq : ∀ {xs ys : List Int}, xs.Pairwise (· < ·) → ys.Pairwise (· < ·) → (∀ v, v ∈ xs ↔ v ∈ ys) → xs = ys
  | [], [], _, _, _ => rfl
  | [], y :: ys, _, _, h => by have := (h y).mpr (by simp); simp at this
  | x :: xs, [], _, _, h => by have := (h x).mp (by simp); simp at this
  | x :: xs, y :: ys, h1, h2, h => by
    rw [List.pairwise_cons] at h1 h2
    have exy : x = y := by
      have a := (h x).mp (by simp)
      have b := (h y).mpr (by simp)
      rcases List.mem_cons.mp a with a | a
      · exact a
      · rcases List.mem_cons.mp b with b | b
        · exact b.symm
        · have := h1.1 y b; have := h2.1 x a; omega
    subst exy
    refine congrArg (x :: ·) (asc_uniq h1.2 h2.2 fun v => ⟨fun hv => ?_, fun hv => ?_⟩)
    · rcases List.mem_cons.mp ((h v).mp (List.mem_cons_of_mem _ hv)) with e | e
      · have := h1.1 v hv; omega
      · exact e
    · rcases List.mem_cons.mp ((h v).mpr (List.mem_cons_of_mem _ hv)) with e | e
      · have := h2.1 v hv; omega
      · exact e
theorem le_nodup_lt : ∀ {xs : List Int}, xs.Pairwise (· ≤ ·) → xs.Nodup → xs.Pairwise (· < ·)
  | [], _, _ => .nil
  | x :: xs, h, n => by
    rw [List.pairwise_cons] at h ⊢
    rw [List.nodup_cons] at n
    exact ⟨fun a ha => by
      have := h.1 a ha
      have : x ≠ a := fun e => n.1 (by rw [e]; exact ha)
      omega, le_nodup_lt h.2 n.2⟩
theorem lt_nodup : ∀ {xs : List Int}, xs.Pairwise (· < ·) → xs.Nodup
  | [], _ => .nil
  | x :: xs, h => by
    rw [List.pairwise_cons] at h
    rw [List.nodup_cons]
    exact ⟨fun e => by have := h.1 x e; omega, lt_nodup h.2⟩
theorem le_uniq : ∀ {xs ys : List Int}, xs.Pairwise (· ≤ ·) → ys.Pairwise (· ≤ ·) → xs.Perm ys → xs = ys
  | xs, ys, h1, h2, p => by
    refine List.Perm.eq_of_pairwise (le := fun (a b : Int) => a ≤ b) (fun a b _ _ h h' => by omega) h1 h2 p
theorem erase_len {x : Int} : ∀ {xs : List Int}, x ∈ xs → (xs.filter fun y => !decide (y = x)).length < xs.length
  | [], h => by simp at h
  | y :: ys, h => by
    rw [List.filter_cons]
    by_cases e : y = x
    · rw [if_neg (by simp [e])]
      have := List.length_filter_le (fun y => !decide (y = x)) ys
      simp only [List.length_cons]; omega
    · rw [if_pos (by simp [e])]
      have h' : x ∈ ys := by
        rcases List.mem_cons.mp h with z | z
        · exact absurd z.symm e
        · exact z
      have := erase_len h'
      simp only [List.length_cons]; omega
theorem nodup_sub : ∀ {xs ys : List Int}, xs.Nodup → (∀ v, v ∈ xs → v ∈ ys) → xs.length ≤ ys.length
  | [], _, _, _ => Nat.zero_le _
  | x :: xs, ys, n, h => by
    rw [List.nodup_cons] at n
    have h1 := erase_len (h x (by simp))
    have h2 := nodup_sub (xs := xs) (ys := ys.filter fun y => !decide (y = x)) n.2 fun v hv => by
      rw [List.mem_filter]
      refine ⟨h v (List.mem_cons_of_mem _ hv), ?_⟩
      have : v ≠ x := fun e => n.1 (by rw [← e]; exact hv)
      simp [this]
    simp only [List.length_cons]; omega
theorem nodup_below {xs : List Int} {n : Nat} (h : xs.Nodup) (b : ∀ v, v ∈ xs → 0 ≤ v ∧ v < n) : xs.length ≤ n := by
  have := nodup_sub h (ys := upto n) fun v hv => upto_mem.mpr (b v hv)
  rw [upto_len] at this; exact this
theorem asc_ahead {xs : List Int} {i v : Int} (h : xs.Pairwise (· < ·)) (h0 : 0 < i) (hv : xs[i.toNat]? = some v) : ∃ z, xs[(i - 1).toNat]? = some z ∧ z < v := by
  have hl := (List.getElem?_eq_some_iff.mp hv).1
  have hl2 : (i - 1).toNat < xs.length := by omega
  refine ⟨xs[(i - 1).toNat], List.getElem?_eq_getElem hl2, ?_⟩
  have := List.pairwise_iff_getElem.mp h (i - 1).toNat i.toNat hl2 hl (by omega)
  rw [List.getElem?_eq_getElem hl] at hv
  cases hv
  exact this
/-! ### tables, journals -/
def frs (n : Nat) : List Int := (upto n).map fun i => -1 - i
theorem frs_len (n : Nat) : (frs n).length = n := by simp [frs, upto_len]
theorem frs_get {n i : Nat} (h : i < n) : (frs n)[i]? = some (-1 - (i : Int)) := by
  unfold frs; rw [List.getElem?_map, upto_get h] <;> rfl
def kat (ks : List Kind) (j : Int) : Kind := ks.getD j.toNat (0, ⟨[]⟩)
def readOf (la : List Int) (k : Kind) : Tp Int := ⟨k.2.l.map fun r => la.getD r.toNat 0⟩
structure Hst where
  wr : List Int
  rd : List (Tp Int)
  la : List Int
def hstep (ks : List Kind) (s : Hst) (p : Int × Int) : Hst := ⟨s.wr ++ [(kat ks p.2).1], s.rd ++ [readOf s.la (kat ks p.2)], s.la.set (kat ks p.2).1.toNat p.1⟩
def hst0 (n : Int) : Hst := ⟨[], [], frs n.toNat⟩
def hist (n : Int) (ks : List Kind) (js : List Int) : Hst := (nums js).foldl (hstep ks) (hst0 n)
structure KOk (n : Int) (k : Kind) : Prop where
  c0 : 0 ≤ k.1
  c1 : k.1 < n
  asc : k.2.l.Pairwise (· < ·)
  r0 : ∀ r, r ∈ k.2.l → 0 ≤ r ∧ r < n
  len : k.2.l.length ≤ 3
structure KsOk (n : Int) (ks : List Kind) : Prop where
  n1 : 1 ≤ n
  n8 : n ≤ 8
  at_ : ∀ k, k ∈ ks → KOk n k
  k1 : 1 ≤ ks.length
  k40 : ks.length ≤ 40
  asc : ks.Pairwise fun x y => kbef x y = true
structure JOk (ks : List Kind) (js : List Int) : Prop where
  len : js.length ≤ 400
  at_ : ∀ j, j ∈ js → 0 ≤ j ∧ j < (ks.length : Int)
theorem hist_snoc (n : Int) (ks : List Kind) (js : List Int) (j : Int) : hist n ks (js ++ [j]) = hstep ks (hist n ks js) ((js.length : Int), j) := by
  unfold hist; rw [nums_snoc, List.foldl_append]; rfl
theorem kat_get {ks : List Kind} {j : Int} (h0 : 0 ≤ j) (h1 : j < (ks.length : Int)) : ks[j.toNat]? = some (kat ks j) := by
  unfold kat
  rw [List.getD_eq_getElem?_getD, List.getElem?_eq_getElem (by omega : j.toNat < ks.length)] <;> rfl
theorem kat_mem {ks : List Kind} {j : Int} (h0 : 0 ≤ j) (h1 : j < (ks.length : Int)) : kat ks j ∈ ks := List.mem_of_getElem? (kat_get h0 h1)
theorem JOk.get {ks : List Kind} {js : List Int} (h : JOk ks js) {j : Int} (hj : j ∈ js) : ks[j.toNat]? = some (kat ks j) := kat_get (h.at_ j hj).1 (h.at_ j hj).2
theorem JOk.ok {n : Int} {ks : List Kind} {js : List Int} (k : KsOk n ks) (h : JOk ks js) {j : Int} (hj : j ∈ js) : KOk n (kat ks j) := k.at_ _ (kat_mem (h.at_ j hj).1 (h.at_ j hj).2)
/-- what is known of a history, step by step -/
structure HOk (n : Int) (m : Nat) (h : Hst) : Prop where
  wl : h.wr.length = m
  rl : h.rd.length = m
  ll : h.la.length = n.toNat
  src : ∀ (i : Nat) (row : Tp Int), h.rd[i]? = some row → row.l.length ≤ 3 ∧ ∀ s, s ∈ row.l → s < (i : Int)
  pr : ∀ (i : Nat) (v : Int), h.la[i]? = some v → v < (m : Int)
theorem hok0 (n : Int) : HOk n 0 (hst0 n) := by
  refine ⟨rfl, rfl, frs_len _, fun i row h => by simp [hst0] at h, fun i v h => ?_⟩
  have hi : i < n.toNat := by
    have := (List.getElem?_eq_some_iff.mp h).1
    rw [show (hst0 n).la = frs n.toNat from rfl, frs_len] at this; exact this
  rw [show (hst0 n).la = frs n.toNat from rfl, frs_get hi] at h
  cases h
  show -1 - (i : Int) < 0
  omega
theorem hok_step {n : Int} {m : Nat} {ks : List Kind} {h : Hst} {j : Int} (o : HOk n m h) (k : KOk n (kat ks j)) : HOk n (m + 1) (hstep ks h ((m : Int), j)) := by
  refine ⟨?_, ?_, ?_, fun i row hr => ?_, fun i v hv => ?_⟩
  · simp [hstep, o.wl]
  · simp [hstep, o.rl]
  · simp [hstep, o.ll]
  · have hr' : (h.rd ++ [readOf h.la (kat ks j)])[i]? = some row := hr
    by_cases hi : i < h.rd.length
    · rw [List.getElem?_append_left hi] at hr'
      exact o.src i row hr'
    · rw [List.getElem?_append_right (by omega)] at hr'
      have h0 : i - h.rd.length = 0 := by
        have := (List.getElem?_eq_some_iff.mp hr').1
        simp at this; omega
      rw [h0] at hr'
      have e : readOf h.la (kat ks j) = row := by simpa using hr'
      subst e
      refine ⟨by simp [readOf]; exact k.len, fun s hs => ?_⟩
      obtain ⟨r, hr1, rfl⟩ := List.mem_map.mp hs
      have b := k.r0 r hr1
      have hl : r.toNat < h.la.length := by rw [o.ll]; omega
      have e2 := o.pr r.toNat _ (List.getElem?_eq_getElem hl)
      rw [List.getD_eq_getElem?_getD, List.getElem?_eq_getElem hl]
      have hm : i = m := by have := o.rl; omega
      show h.la[r.toNat] < (i : Int)
      omega
  · have hv' : (h.la.set (kat ks j).1.toNat (m : Int))[i]? = some v := hv
    rw [List.getElem?_set] at hv'
    split at hv'
    · split at hv'
      · cases hv'; omega
      · cases hv'
    · have := o.pr i v hv'; omega
theorem snoc_ind {α : Type} {P : List α → Prop} (h0 : P []) (h1 : ∀ xs x, P xs → P (xs ++ [x])) : ∀ xs, P xs := fun xs => by
  have key : ∀ ys : List α, P ys.reverse := by
    intro ys
    induction ys with
    | nil => exact h0
    | cons y ys ih => rw [List.reverse_cons]; exact h1 _ _ ih
  have := key xs.reverse
  rwa [List.reverse_reverse] at this
theorem hok {n : Int} {ks : List Kind} (k : KsOk n ks) : ∀ js : List Int, (∀ j, j ∈ js → 0 ≤ j ∧ j < (ks.length : Int)) → HOk n js.length (hist n ks js) := by
  intro js
  induction js using snoc_ind with
  | h0 => intro _; exact hok0 n
  | h1 xs x ih =>
    intro h
    rw [hist_snoc, List.length_append, List.length_cons, List.length_nil]
    have b := h x (by simp)
    exact hok_step (ih fun j hj => h j (by simp [hj])) (k.at_ _ (kat_mem b.1 b.2))
theorem wr_eq (n : Int) (ks : List Kind) : ∀ js : List Int, (hist n ks js).wr = js.map fun j => (kat ks j).1 := by
  intro js
  induction js using snoc_ind with
  | h0 => rfl
  | h1 xs x ih =>
    rw [hist_snoc, List.map_append, ← ih]; rfl
theorem hok_b {n : Int} {ks : List Kind} (k : KsOk n ks) {js : List Int} (j : JOk ks js) : (hist n ks js).rd.length ≤ 400 ∧ (hist n ks js).la.length ≤ 8 ∧ ∀ row, row ∈ (hist n ks js).rd → row.l.length ≤ 3 := by
  have h := hok k js j.at_
  refine ⟨by rw [h.rl]; exact j.len, by rw [h.ll]; have := k.n8; omega, fun row hr => ?_⟩
  obtain ⟨i, hi⟩ := List.mem_iff_getElem?.mp hr
  exact (h.src i row hi).1
theorem tp_nil (xs : List Int) : decide (Tp.mk xs = Tp.mk []) = decide (xs = []) := by
  by_cases h : xs = []
  · rw [h]; simp
  · rw [decide_eq_false h, decide_eq_false fun e => h (congrArg Tp.l e)]
structure POk (n : Int) (wr ps : List Int) : Prop where
  len : ps.length = n.toNat
  at_ : ∀ (c : Nat) (v : Int), ps[c]? = some v → v = -1 - (c : Int) ∨ (0 ≤ v ∧ wr[v.toNat]? = some (c : Int))
theorem POk.le {n : Int} {wr ps : List Int} (p : POk n wr ps) (h : n ≤ 8) : ps.length ≤ 8 := by rw [p.len]; omega
theorem downto_split {n : Nat} {pre post : List Int} {y : Int} (e : downto n = pre ++ y :: post) : pre.length < n ∧ y = ((n - (pre.length + 1) : Nat) : Int) := by
  have h1 : (downto n)[pre.length]? = some y := by rw [e, List.getElem?_append_right (Nat.le_refl _), Nat.sub_self]; rfl
  have hl : pre.length < n := by
    have := (List.getElem?_eq_some_iff.mp h1).1
    simpa [downto, upto_len] using this
  refine ⟨hl, ?_⟩
  unfold downto at h1
  rw [List.getElem?_reverse (by rw [upto_len]; exact hl), upto_len, upto_get (by omega)] at h1
  have := Option.some.inj h1
  rw [← this]
  congr 1
  omega
/-! ### what comes back -/
def memD (m : List (Int × Bool)) (v : Int) : Bool := (dget m v).isSome
theorem memD_put (m : List (Int × Bool)) (k : Int) (b : Bool) (v : Int) : memD (dput m k b) v = (decide (k = v) || memD m v) := by
  unfold memD
  induction m with
  | nil =>
    show (if k = v then some b else none).isSome = _
    by_cases h : k = v
    · rw [if_pos h, decide_eq_true h]; rfl
    · rw [if_neg h, decide_eq_false h]; rfl
  | cons p r ih =>
    show (dget (if p.1 = k then (k, b) :: r else p :: dput r k b) v).isSome = _
    by_cases h : p.1 = k
    · rw [if_pos h]
      show (if k = v then some b else dget r v).isSome = (decide (k = v) || (if p.1 = v then some p.2 else dget r v).isSome)
      by_cases h2 : k = v
      · rw [if_pos h2, decide_eq_true h2]; rfl
      · rw [if_neg h2, decide_eq_false h2, if_neg (by rw [h]; exact h2)]; rfl
    · rw [if_neg h]
      show (if p.1 = v then some p.2 else dget (dput r k b) v).isSome = (decide (k = v) || (if p.1 = v then some p.2 else dget r v).isSome)
      by_cases h2 : p.1 = v
      · rw [if_pos h2, if_pos h2]; simp
      · rw [if_neg h2, if_neg h2]; exact ih
def plD (ps : List Int) : List (Int × Bool) := ps.foldl (fun m v => dput m v true) []
theorem fold_put : ∀ (ps : List Int) (m : List (Int × Bool)) (v : Int), memD (ps.foldl (fun m v => dput m v true) m) v = (decide (v ∈ ps) || memD m v)
  | [], m, v => by simp
  | p :: ps, m, v => by
    rw [List.foldl_cons, fold_put ps, memD_put]
    by_cases h : p = v
    · subst h; simp
    · have h2 : ¬ v = p := fun e => h e.symm
      simp [h, h2]
theorem plD_mem (ps : List Int) (v : Int) : memD (plD ps) v = decide (v ∈ ps) := by
  unfold plD; rw [fold_put]; simp [memD, dget]
theorem fold_keys : ∀ (ps : List Int) (m : List (Int × Bool)), Keys1 m → Keys1 (ps.foldl (fun m v => dput m v true) m)
  | [], m, h => h
  | p :: ps, m, h => fold_keys ps _ (keys1_put h p true)
theorem plD_keys (ps : List Int) : Keys1 (plD ps) := fold_keys ps [] keys1_nil
theorem dput_len (m : List (Int × Bool)) (k : Int) (b : Bool) : (dput m k b).length ≤ m.length + 1 := by
  induction m with
  | nil => exact Nat.le_refl _
  | cons p r ih =>
    show (if p.1 = k then (k, b) :: r else p :: dput r k b).length ≤ _
    split
    · simp
    · simp only [List.length_cons]; omega
theorem fold_len : ∀ (ps : List Int) (m : List (Int × Bool)), (ps.foldl (fun m v => dput m v true) m).length ≤ m.length + ps.length
  | [], m => Nat.le_refl _
  | p :: ps, m => by
    have h1 := fold_len ps (dput m p true)
    have h2 := dput_len m p true
    rw [List.foldl_cons, List.length_cons]; omega
theorem plD_len (ps : List Int) : (plD ps).length ≤ ps.length := by
  have := fold_len ps []; simpa [plD] using this
def cstep (m : List (Int × Bool)) (p : Int × Tp Int) : List (Int × Bool) := if p.2.l.all (fun v => memD m v) = true then dput m p.1 true else m
def clo (rd : List (Tp Int)) (ps : List Int) : List (Int × Bool) := (nums rd).foldl cstep (plD ps)
def lostOf (rd : List (Tp Int)) (la ps : List Int) : List Int := ((nums la).filter fun p => !memD (clo rd ps) p.2).map (·.1)
theorem clo_snoc (rd : List (Tp Int)) (r : Tp Int) (ps : List Int) : clo (rd ++ [r]) ps = cstep (clo rd ps) ((rd.length : Int), r) := by
  unfold clo; rw [nums_snoc, List.foldl_append]; rfl
theorem clo_nil (ps : List Int) : clo [] ps = plD ps := rfl
theorem cstep_mono {m : List (Int × Bool)} {p : Int × Tp Int} {v : Int} (h : memD m v = true) : memD (cstep m p) v = true := by
  unfold cstep; split
  · rw [memD_put, h]; simp
  · exact h
theorem clo_keys (ps : List Int) : ∀ rd : List (Tp Int), Keys1 (clo rd ps) := by
  intro rd
  induction rd using snoc_ind with
  | h0 => exact plD_keys ps
  | h1 xs x ih =>
    rw [clo_snoc]; unfold cstep; split
    · exact keys1_put ih _ _
    · exact ih
theorem clo_len (ps : List Int) : ∀ rd : List (Tp Int), (clo rd ps).length ≤ ps.length + rd.length := by
  intro rd
  induction rd using snoc_ind with
  | h0 => exact plD_len ps
  | h1 xs x ih =>
    rw [clo_snoc, List.length_append]; unfold cstep; split
    · have := dput_len (clo xs ps) (xs.length : Int) true
      simp only [List.length_cons, List.length_nil]; omega
    · simp only [List.length_cons, List.length_nil]; omega
theorem clo_src (ps : List Int) : ∀ (rd : List (Tp Int)) (v : Int), memD (clo rd ps) v = true → v ∈ ps ∨ ∃ (i : Nat) (row : Tp Int), v = (i : Int) ∧ rd[i]? = some row ∧ ∀ s, s ∈ row.l → memD (clo rd ps) s = true := by
  intro rd
  induction rd using snoc_ind with
  | h0 => intro v h; rw [clo_nil, plD_mem] at h; exact .inl (of_decide_eq_true h)
  | h1 xs x ih =>
    intro v h
    rw [clo_snoc] at h ⊢
    have old : memD (clo xs ps) v = true → v ∈ ps ∨ ∃ (i : Nat) (row : Tp Int), v = (i : Int) ∧ (xs ++ [x])[i]? = some row ∧ ∀ s, s ∈ row.l → memD (cstep (clo xs ps) ((xs.length : Int), x)) s = true := fun h => by
      rcases ih v h with z | ⟨i, row, z1, z2, z3⟩
      · exact .inl z
      · refine .inr ⟨i, row, z1, ?_, fun s hs => cstep_mono (z3 s hs)⟩
        rw [List.getElem?_append_left (List.getElem?_eq_some_iff.mp z2).1]; exact z2
    unfold cstep at h
    split at h
    · rename_i q
      rw [memD_put, Bool.or_eq_true] at h
      rcases h with h | h
      · refine .inr ⟨xs.length, x, (of_decide_eq_true h).symm, by simp, fun s hs => cstep_mono (List.all_eq_true.mp q s hs)⟩
      · exact old h
    · exact old h
/-- which deeds have to be done again -/
inductive Nd (rd : List (Tp Int)) (la ps : List Int) : Int → Prop
  | base {v : Int} : v ∈ la → v ∉ ps → Nd rd la ps v
  | step {d s : Int} {row : Tp Int} : Nd rd la ps d → rd[d.toNat]? = some row → s ∈ row.l → s ∉ ps → Nd rd la ps s
theorem Nd.not {rd la ps v} (h : Nd rd la ps v) : v ∉ ps := by cases h with
  | base _ h => exact h
  | step _ _ _ h => exact h
theorem lost_nil {rd : List (Tp Int)} {la ps : List Int} (h : lostOf rd la ps = []) {v : Int} (hv : v ∈ la) : memD (clo rd ps) v = true := by
  obtain ⟨i, hi⟩ := List.mem_iff_getElem?.mp hv
  have hm := nums_in hi
  cases e : memD (clo rd ps) v with
  | true => rfl
  | false =>
    have : (i : Int) ∈ lostOf rd la ps := by
      unfold lostOf
      exact List.mem_map.mpr ⟨_, List.mem_filter.mpr ⟨hm, by simp [e]⟩, rfl⟩
    rw [h] at this; simp at this
theorem Nd.deed {rd : List (Tp Int)} {la ps : List Int} (hs : lostOf rd la ps = []) {v : Int} (h : Nd rd la ps v) : 0 ≤ v ∧ v < (rd.length : Int) ∧ ∃ row, rd[v.toNat]? = some row ∧ ∀ s, s ∈ row.l → memD (clo rd ps) s = true := by
  have key : memD (clo rd ps) v = true := by
    induction h with
    | base h1 h2 => exact lost_nil hs h1
    | step h1 h2 h3 h4 ih =>
      rcases clo_src ps rd _ ih with z | ⟨i, row, z1, z2, z3⟩
      · exact absurd z h1.not
      · subst z1
        rw [Int.toNat_natCast, z2] at h2
        cases h2
        exact z3 _ h3
  rcases clo_src ps rd v key with z | ⟨i, row, z1, z2, z3⟩
  · exact absurd z h.not
  · subst z1
    have := (List.getElem?_eq_some_iff.mp z2).1
    exact ⟨by omega, by omega, row, by rw [Int.toNat_natCast]; exact z2, z3⟩
/-! ### going along some deeds from plates -/
def cbF (rd : List (Tp Int)) (f : List Int) (d : Int) : List Int := if (rd.getD d.toNat ⟨[]⟩).l.all (fun s => decide (s ∈ f)) = true then f ++ [d] else f
def cb (rd : List (Tp Int)) (ps so la : List Int) : Bool := la.all fun v => decide (v ∈ so.foldl (cbF rd) ps)
theorem cbF_mono {rd : List (Tp Int)} {f : List Int} {d v : Int} (h : v ∈ f) : v ∈ cbF rd f d := by
  unfold cbF; split
  · exact List.mem_append_left _ h
  · exact h
theorem cb_mono {rd : List (Tp Int)} {v : Int} : ∀ {so f : List Int}, v ∈ f → v ∈ so.foldl (cbF rd) f
  | [], _, h => h
  | _ :: so, _, h => cb_mono (so := so) (cbF_mono h)
theorem cb_len {rd : List (Tp Int)} : ∀ (so f : List Int), (so.foldl (cbF rd) f).length ≤ f.length + so.length
  | [], f => Nat.le_refl _
  | d :: so, f => by
    have h1 := cb_len (rd := rd) so (cbF rd f d)
    have h2 : (cbF rd f d).length ≤ f.length + 1 := by unfold cbF; split <;> simp
    rw [List.foldl_cons, List.length_cons]; omega
/-- a thing reached is of the plates, or one of these deeds, its sources reached -/
theorem cb_src {rd : List (Tp Int)} {ps : List Int} : ∀ (so f : List Int), (∀ v, v ∈ f → v ∈ ps ∨ (∃ row, rd.getD v.toNat ⟨[]⟩ = row ∧ ∀ s, s ∈ row.l → s ∈ f)) →
    ∀ v, v ∈ so.foldl (cbF rd) f → (v ∈ f ∨ v ∈ so) ∧ (v ∈ ps ∨ ∃ row, rd.getD v.toNat ⟨[]⟩ = row ∧ ∀ s, s ∈ row.l → s ∈ so.foldl (cbF rd) f)
  | [], f, h, v, hv => ⟨.inl hv, h v hv⟩
  | d :: so, f, h, v, hv => by
    have h' : ∀ v, v ∈ cbF rd f d → v ∈ ps ∨ (∃ row, rd.getD v.toNat ⟨[]⟩ = row ∧ ∀ s, s ∈ row.l → s ∈ cbF rd f d) := fun v hv => by
      have old : v ∈ f → v ∈ ps ∨ (∃ row, rd.getD v.toNat ⟨[]⟩ = row ∧ ∀ s, s ∈ row.l → s ∈ cbF rd f d) := fun hv => (h v hv).imp id fun ⟨row, e, z⟩ => ⟨row, e, fun s hs => cbF_mono (z s hs)⟩
      by_cases q : (rd.getD d.toNat ⟨[]⟩).l.all (fun s => decide (s ∈ f)) = true
      · have hv' := hv
        unfold cbF at hv'
        rw [if_pos q] at hv'
        rcases List.mem_append.mp hv' with z | z
        · exact old z
        · have : v = d := by simpa using z
          subst this
          exact .inr ⟨_, rfl, fun s hs => cbF_mono (of_decide_eq_true (List.all_eq_true.mp q s hs))⟩
      · have hv' := hv
        unfold cbF at hv'
        rw [if_neg q] at hv'
        exact old hv'
    have := cb_src so (cbF rd f d) h' v hv
    refine ⟨?_, this.2⟩
    rcases this.1 with z | z
    · unfold cbF at z; split at z
      · rcases List.mem_append.mp z with y | y
        · exact .inl y
        · have : v = d := by simpa using y
          exact .inr (by simp [this])
      · exact .inl z
    · exact .inr (List.mem_cons_of_mem _ z)
theorem cb_yes {rd : List (Tp Int)} {la ps due : List Int} (hs : lostOf rd la ps = []) (src : ∀ (i : Nat) (row : Tp Int), rd[i]? = some row → ∀ s, s ∈ row.l → s < (i : Int)) (asc : due.Pairwise (· < ·)) (hm : ∀ v, v ∈ due ↔ Nd rd la ps v) : cb rd ps due la = true := by
  have key : ∀ (pre post f : List Int), due = pre ++ post → (∀ v, v ∈ ps → v ∈ f) → (∀ v, v ∈ pre → v ∈ f) → ∀ v, v ∈ due → v ∈ post.foldl (cbF rd) f := by
    intro pre post
    induction post generalizing pre with
    | nil => intro f e h1 h2 v hv; rw [e, List.append_nil] at hv; exact h2 v hv
    | cons d post ih =>
      intro f e h1 h2 v hv
      have hd : Nd rd la ps d := (hm d).mp (by rw [e]; simp)
      obtain ⟨b0, b1, row, hr, _⟩ := hd.deed hs
      have hall : (rd.getD d.toNat ⟨[]⟩).l.all (fun s => decide (s ∈ f)) = true := by
        rw [List.getD_eq_getElem?_getD, hr, List.all_eq_true]
        intro s hs'
        refine decide_eq_true ?_
        by_cases z : s ∈ ps
        · exact h1 s z
        · have nd : Nd rd la ps s := .step hd hr hs' z
          have hin := (hm s).mpr nd
          have hlt := src d.toNat row hr s hs'
          rw [e] at hin
          rcases List.mem_append.mp hin with y | y
          · exact h2 s y
          · rw [e, List.pairwise_append] at asc
            have a2 := asc.2.1
            rw [List.pairwise_cons] at a2
            rcases List.mem_cons.mp y with x | x
            · omega
            · have := a2.1 s x; omega
      have hf : cbF rd f d = f ++ [d] := by unfold cbF; rw [if_pos hall]
      rw [List.foldl_cons, hf]
      refine ih (pre ++ [d]) (f ++ [d]) (by rw [e]; simp) (fun v hv => List.mem_append_left _ (h1 v hv)) (fun v hv => ?_) v hv
      rcases List.mem_append.mp hv with y | y
      · exact List.mem_append_left _ (h2 v y)
      · exact List.mem_append_right _ y
  unfold cb
  rw [List.all_eq_true]
  intro v hv
  refine decide_eq_true ?_
  by_cases z : v ∈ ps
  · exact cb_mono z
  · exact key [] due ps rfl (fun v h => h) (fun v h => by simp at h) v ((hm v).mpr (.base hv z))
theorem cb_no {rd : List (Tp Int)} {la ps so : List Int} {a : Int} (hs : lostOf rd la ps = []) (ha : Nd rd la ps a) (hn : a ∉ so) : cb rd ps so la = false := by
  cases e : cb rd ps so la with
  | false => rfl
  | true =>
    unfold cb at e
    rw [List.all_eq_true] at e
    have src := cb_src (rd := rd) (ps := ps) so ps fun v hv => .inl hv
    have key : ∀ v, Nd rd la ps v → v ∈ so.foldl (cbF rd) ps := by
      intro v h
      induction h with
      | base h1 _ => exact of_decide_eq_true (e _ h1)
      | step h1 h2 h3 h4 ih =>
        rcases (src _ ih).2 with z | ⟨row, z1, z2⟩
        · exact absurd z h1.not
        · rw [List.getD_eq_getElem?_getD, h2] at z1
          have z1' : _ = row := z1
          subst z1'
          exact z2 _ h3
    rcases (src a (key a ha)).1 with z | z
    · exact absurd z ha.not
    · exact absurd z hn
/-! ### the worklist -/
structure WkOk (rd : List (Tp Int)) (la ps : List Int) (s : List Int × List Int) : Prop where
  nd : s.1.Nodup
  f : ∀ v, v ∈ s.1 → Nd rd la ps v
  l : ∀ v, v ∈ s.2 → Nd rd la ps v
  cl : ∀ d, d ∈ s.1 → ∀ row, rd[d.toNat]? = some row → ∀ v, v ∈ row.l → v ∉ ps → v ∈ s.1 ∨ v ∈ s.2
  ba : ∀ v, v ∈ la → v ∉ ps → v ∈ s.1 ∨ v ∈ s.2
  mu : s.2.length + 4 * (rd.length - s.1.length) ≤ 4 * rd.length + la.length
def wkM (rd : List (Tp Int)) (s : List Int × List Int) : Nat := s.2.length + 4 * (rd.length - s.1.length)
theorem wk0 (rd : List (Tp Int)) (la ps : List Int) : WkOk rd la ps ([], la.filter fun v => !decide (v ∈ ps)) := by
  refine ⟨.nil, fun v h => by simp at h, fun v h => ?_, fun d h => by simp at h, fun v h1 h2 => .inr (List.mem_filter.mpr ⟨h1, by simp [h2]⟩), ?_⟩
  · obtain ⟨h1, h2⟩ := List.mem_filter.mp h
    exact .base h1 (by simpa using h2)
  · have := List.length_filter_le (fun v => !decide (v ∈ ps)) la
    simp only [List.length_nil]; omega
theorem WkOk.old {rd : List (Tp Int)} {la ps f l : List Int} {d : Int} (h : WkOk rd la ps (f, l ++ [d])) (hd : d ∈ f) : WkOk rd la ps (f, l) ∧ wkM rd (f, l) < wkM rd (f, l ++ [d]) := by
  have go : ∀ v, v ∈ f ∨ v ∈ l ++ [d] → v ∈ f ∨ v ∈ l := fun v h => by
    rcases h with h | h
    · exact .inl h
    · rcases List.mem_append.mp h with z | z
      · exact .inr z
      · have : v = d := by simpa using z
        exact .inl (by rw [this]; exact hd)
  refine ⟨⟨h.nd, h.f, fun v hv => h.l v (List.mem_append_left _ hv), fun d' hd' row hr v hv hn => go v (h.cl d' hd' row hr v hv hn), fun v h1 h2 => go v (h.ba v h1 h2), ?_⟩, ?_⟩
  · have := h.mu
    simp only [List.length_append, List.length_cons, List.length_nil] at this ⊢
    omega
  · unfold wkM; simp only [List.length_append, List.length_cons, List.length_nil]; omega
theorem WkOk.new {rd : List (Tp Int)} {la ps f l : List Int} {d : Int} {row : Tp Int} (hs : lostOf rd la ps = []) (h : WkOk rd la ps (f, l ++ [d])) (hd : d ∉ f) (hr : rd[d.toNat]? = some row) (h3 : row.l.length ≤ 3) :
    WkOk rd la ps (f ++ [d], l ++ row.l.filter fun v => !decide (v ∈ ps)) ∧ wkM rd (f ++ [d], l ++ row.l.filter fun v => !decide (v ∈ ps)) < wkM rd (f, l ++ [d]) := by
  have hdn : Nd rd la ps d := h.l d (by simp)
  have go : ∀ v, v ∈ f ∨ v ∈ l ++ [d] → v ∈ f ++ [d] ∨ v ∈ l ++ row.l.filter fun v => !decide (v ∈ ps) := fun v h => by
    rcases h with h | h
    · exact .inl (List.mem_append_left _ h)
    · rcases List.mem_append.mp h with z | z
      · exact .inr (List.mem_append_left _ z)
      · exact .inl (List.mem_append_right _ z)
  have nd2 : (f ++ [d]).Nodup := by
    rw [List.nodup_append]
    exact ⟨h.nd, by simp, fun a ha b hb => by
      have : b = d := by simpa using hb
      subst this; intro e; subst e; exact hd ha⟩
  have f2 : ∀ v, v ∈ f ++ [d] → Nd rd la ps v := fun v hv => by
    rcases List.mem_append.mp hv with z | z
    · exact h.f v z
    · have : v = d := by simpa using z
      rw [this]; exact hdn
  have hl : (f ++ [d]).length ≤ rd.length := nodup_below nd2 fun v hv => by
    have := (f2 v hv).deed hs
    exact ⟨this.1, this.2.1⟩
  have h4 := List.length_filter_le (fun v => !decide (v ∈ ps)) row.l
  simp only [List.length_append, List.length_cons, List.length_nil] at hl
  refine ⟨⟨nd2, f2, fun v hv => ?_, fun d' hd' row' hr' v hv hn => ?_, fun v h1 h2 => go v (h.ba v h1 h2), ?_⟩, ?_⟩
  · rcases List.mem_append.mp hv with z | z
    · exact h.l v (List.mem_append_left _ z)
    · obtain ⟨z1, z2⟩ := List.mem_filter.mp z
      exact .step hdn hr z1 (by simpa using z2)
  · rcases List.mem_append.mp hd' with z | z
    · exact go v (h.cl d' z row' hr' v hv hn)
    · have : d' = d := by simpa using z
      subst this
      rw [hr] at hr'; cases hr'
      exact .inr (List.mem_append_right _ (List.mem_filter.mpr ⟨hv, by simp [hn]⟩))
  · have := h.mu
    simp only [List.length_append, List.length_cons, List.length_nil] at this ⊢
    omega
  · unfold wkM; simp only [List.length_append, List.length_cons, List.length_nil]; omega
theorem WkOk.fin {rd : List (Tp Int)} {la ps f : List Int} (h : WkOk rd la ps (f, [])) : ∀ v, v ∈ f ↔ Nd rd la ps v := fun v => by
  refine ⟨h.f v, fun n => ?_⟩
  induction n with
  | base h1 h2 => exact (h.ba _ h1 h2).elim id fun z => by simp at z
  | step h1 h2 h3 h4 ih => exact (h.cl _ ih _ h2 _ h3 h4).elim id fun z => by simp at z
/-! ### backwards -/
/-- m: the deeds from m on are through -/
structure BkOk (rd : List (Tp Int)) (la ps : List Int) (m : Nat) (nd : List (Int × Bool)) (ag : List Int) : Prop where
  ks : Keys1 nd
  le : nd.length ≤ la.length + 3 * (rd.length - m)
  mm : ∀ v, memD nd v = true ↔ v ∈ la ∨ ∃ d row, d ∈ ag ∧ rd[d.toNat]? = some row ∧ v ∈ row.l
  an : ag.Pairwise (· > ·)
  ge : ∀ d, d ∈ ag → (m : Int) ≤ d
  al : ag.length ≤ rd.length - m
  it : ∀ d, (m : Int) ≤ d → (d ∈ ag ↔ Nd rd la ps d)
theorem bk0 {rd : List (Tp Int)} {la ps : List Int} (hs : lostOf rd la ps = []) : BkOk rd la ps rd.length (plD la) [] := by
  refine ⟨plD_keys la, ?_, fun v => ?_, .nil, fun d h => by simp at h, by simp, fun d hd => ⟨fun h => by simp at h, fun h => ?_⟩⟩
  · have := plD_len la; omega
  · rw [plD_mem, decide_eq_true_iff]
    exact ⟨.inl, fun h => h.elim id fun ⟨d, row, z, _⟩ => by simp at z⟩
  · have := (h.deed hs).2.1; omega
theorem BkOk.yes {rd : List (Tp Int)} {la ps ag : List Int} {nd : List (Int × Bool)} {m : Nat} {row : Tp Int} (h : BkOk rd la ps (m + 1) nd ag) (hm : m < rd.length) (hr : rd[m]? = some row) (h3 : row.l.length ≤ 3)
    (h1 : memD nd (m : Int) = true) (h2 : (m : Int) ∉ ps) : BkOk rd la ps m (row.l.foldl (fun m v => dput m v true) nd) (ag ++ [(m : Int)]) := by
  have hN : Nd rd la ps (m : Int) := by
    rcases (h.mm _).mp h1 with z | ⟨d, r, z1, z2, z3⟩
    · exact .base z h2
    · exact .step ((h.it d (by have := h.ge d z1; omega)).mp z1) z2 z3 h2
  refine ⟨fold_keys _ _ h.ks, ?_, fun v => ?_, ?_, fun d hd => ?_, ?_, fun d hd => ?_⟩
  · have e1 := fold_len row.l nd
    have e2 := h.le
    omega
  · rw [fold_put, Bool.or_eq_true, decide_eq_true_iff, h.mm]
    constructor
    · rintro (z | z | ⟨d, r, z1, z2, z3⟩)
      · exact .inr ⟨(m : Int), row, by simp, by rw [Int.toNat_natCast]; exact hr, z⟩
      · exact .inl z
      · exact .inr ⟨d, r, by simp [z1], z2, z3⟩
    · rintro (z | ⟨d, r, z1, z2, z3⟩)
      · exact .inr (.inl z)
      · rcases List.mem_append.mp z1 with y | y
        · exact .inr (.inr ⟨d, r, y, z2, z3⟩)
        · have : d = (m : Int) := by simpa using y
          subst this
          rw [Int.toNat_natCast, hr] at z2
          cases z2
          exact .inl z3
  · rw [List.pairwise_append]
    refine ⟨h.an, by simp, fun a ha b hb => ?_⟩
    have : b = (m : Int) := by simpa using hb
    subst this
    have := h.ge a ha
    show (m : Int) < a
    omega
  · rcases List.mem_append.mp hd with y | y
    · have := h.ge d y; omega
    · have : d = (m : Int) := by simpa using y
      omega
  · have := h.al
    simp only [List.length_append, List.length_cons, List.length_nil]; omega
  · rw [List.mem_append]
    by_cases e : d = (m : Int)
    · subst e
      exact ⟨fun _ => hN, fun _ => .inr (by simp)⟩
    · have := h.it d (by omega)
      rw [← this]
      exact ⟨fun z => z.elim id fun y => absurd (by simpa using y) e, .inl⟩
theorem BkOk.no {rd : List (Tp Int)} {la ps ag : List Int} {nd : List (Int × Bool)} {m : Nat} (src : ∀ (i : Nat) (row : Tp Int), rd[i]? = some row → ∀ s, s ∈ row.l → s < (i : Int)) (hs : lostOf rd la ps = []) (h : BkOk rd la ps (m + 1) nd ag) (hm : m < rd.length)
    (h1 : memD nd (m : Int) = false ∨ (m : Int) ∈ ps) : BkOk rd la ps m nd ag := by
  have hN : ¬ Nd rd la ps (m : Int) := fun n => by
    rcases h1 with h1 | h1
    · have : memD nd (m : Int) = true := by
        rw [h.mm]
        cases n with
        | base z1 z2 => exact .inl z1
        | step z1 z2 z3 z4 =>
          rename_i d row
          obtain ⟨b0, b1, _⟩ := z1.deed hs
          have := src d.toNat row z2 _ z3
          exact .inr ⟨d, row, (h.it d (by omega)).mpr z1, z2, z3⟩
      rw [h1] at this; cases this
    · exact n.not h1
  refine ⟨h.ks, by have := h.le; omega, h.mm, h.an, fun d hd => by have := h.ge d hd; omega, by have := h.al; omega, fun d hd => ?_⟩
  by_cases e : d = (m : Int)
  · subst e
    exact ⟨fun z => by have := h.ge _ z; omega, fun z => absurd z hN⟩
  · exact h.it d (by omega)
theorem BkOk.fin {rd : List (Tp Int)} {la ps ag : List Int} {nd : List (Int × Bool)} (hs : lostOf rd la ps = []) (h : BkOk rd la ps 0 nd ag) : ag.Nodup ∧ ∀ d, d ∈ ag ↔ Nd rd la ps d := by
  refine ⟨List.Pairwise.imp (fun {a b} (z : a > b) => by omega) h.an, fun d => ?_⟩
  by_cases e : 0 ≤ d
  · exact h.it d (by omega)
  · exact ⟨fun z => absurd (by have := h.ge d z; omega) e, fun z => absurd (z.deed hs).1 e⟩
end K02
end
section
set_option Elab.async false
set_option linter.all false
set_option maxRecDepth 100000
/-! More of k02's mirror: presents as plates, versions. -/
namespace K02
open Zq
open PySem (Paired)
theorem la_ok {n : Int} {ks : List Kind} (k : KsOk n ks) : ∀ js : List Int, (∀ j, j ∈ js → 0 ≤ j ∧ j < (ks.length : Int)) → POk n (hist n ks js).wr (hist n ks js).la := by
  intro js
  induction js using snoc_ind with
  | h0 =>
    intro _
    refine ⟨frs_len _, fun c v h => .inl ?_⟩
    have hc : c < n.toNat := by
      have := (List.getElem?_eq_some_iff.mp h).1
      rw [show (hist n ks []).la = frs n.toNat from rfl, frs_len] at this; exact this
    rw [show (hist n ks []).la = frs n.toNat from rfl, frs_get hc] at h
    exact (Option.some.inj h).symm
  | h1 xs x ih =>
    intro h
    have b := h x (by simp)
    have ok := k.at_ _ (kat_mem b.1 b.2)
    have o := ih fun j hj => h j (by simp [hj])
    have ho := hok k xs fun j hj => h j (by simp [hj])
    rw [hist_snoc]
    refine ⟨by show ((hist n ks xs).la.set _ _).length = _; rw [List.length_set]; exact o.len, fun c v hv => ?_⟩
    have hv' : ((hist n ks xs).la.set (kat ks x).1.toNat (xs.length : Int))[c]? = some v := hv
    show v = -1 - (c : Int) ∨ (0 ≤ v ∧ ((hist n ks xs).wr ++ [(kat ks x).1])[v.toNat]? = some (c : Int))
    rw [List.getElem?_set] at hv'
    split at hv'
    · rename_i e
      split at hv'
      · have : v = (xs.length : Int) := (Option.some.inj hv').symm
        subst this
        refine .inr ⟨Int.natCast_nonneg _, ?_⟩
        rw [Int.toNat_natCast, List.getElem?_append_right (by rw [ho.wl]; exact Nat.le_refl _), ho.wl, Nat.sub_self]
        have := ok.c0
        show some (kat ks x).1 = _
        congr 1
        omega
      · cases hv'
    · rcases o.at_ c v hv' with z | ⟨z1, z2⟩
      · exact .inl z
      · exact .inr ⟨z1, by rw [List.getElem?_append_left (List.getElem?_eq_some_iff.mp z2).1]; exact z2⟩
theorem wr_b {n : Int} {ks : List Kind} (k : KsOk n ks) {js : List Int} (j : JOk ks js) : (hist n ks js).wr.length ≤ 400 ∧ ∀ x, x ∈ (hist n ks js).wr → 0 ≤ x ∧ x < n := by
  rw [wr_eq]
  refine ⟨by rw [List.length_map]; exact j.len, fun x hx => ?_⟩
  obtain ⟨a, ha, rfl⟩ := List.mem_map.mp hx
  have := j.ok k ha
  exact ⟨this.c0, this.c1⟩
theorem frs_ok {n : Int} (wr : List Int) : POk n wr (frs n.toNat) := by
  refine ⟨frs_len _, fun c v h => .inl ?_⟩
  have hc : c < n.toNat := by
    have := (List.getElem?_eq_some_iff.mp h).1
    rw [frs_len] at this; exact this
  rw [frs_get hc] at h
  exact (Option.some.inj h).symm
def withF (la cs : List Int) (q : Int × Int) : Int := if q.1 ∈ cs then la.getD q.1.toNat 0 else q.2
theorem with_ok {n : Int} {wr la ps : List Int} (hl : POk n wr la) (hp : POk n wr ps) (cs : List Int) : POk n wr ((nums ps).map (withF la cs)) := by
  refine ⟨by rw [List.length_map, nums_len]; exact hp.len, fun c v h => ?_⟩
  rw [List.getElem?_map] at h
  cases e : (nums ps)[c]? with
  | none => rw [e] at h; cases h
  | some q =>
    rw [e] at h
    have hc : c < ps.length := by
      have := (List.getElem?_eq_some_iff.mp e).1
      rw [nums_len] at this; exact this
    rw [nums_get (List.getElem?_eq_getElem hc)] at e
    have e2 := Option.some.inj e
    have hv : withF la cs q = v := Option.some.inj h
    subst e2
    subst hv
    unfold withF
    dsimp only
    split
    · have hcl : c < la.length := by rw [hl.len, ← hp.len]; exact hc
      have := getD_get (xs := la) (i := c) hcl
      rw [Int.toNat_natCast]
      exact hl.at_ c _ this
    · exact hp.at_ c _ (List.getElem?_eq_getElem hc)
structure VOk (n : Int) (wr : List Int) (m : Nat) (ls : List (List Int)) : Prop where
  len : ls.length = n.toNat
  at_ : ∀ (c : Nat) (l : List Int), ls[c]? = some l → l ≠ [] ∧ l.length ≤ m + 1 ∧ ∀ v, v ∈ l → v = -1 - (c : Int) ∨ (0 ≤ v ∧ wr[v.toNat]? = some (c : Int))
theorem vok0 (n : Int) (wr : List Int) : VOk n wr 0 ((upto n.toNat).map fun i => [-1 - i]) := by
  refine ⟨by rw [List.length_map, upto_len], fun c l h => ?_⟩
  have hc : c < n.toNat := by
    have := (List.getElem?_eq_some_iff.mp h).1
    rwa [List.length_map, upto_len] at this
  rw [List.getElem?_map, upto_get hc] at h
  have := Option.some.inj h
  subst this
  exact ⟨by simp, by simp, fun v hv => .inl (by simpa using hv)⟩
theorem vok_step {n : Int} {wr : List Int} {m i : Nat} {x : Int} {ls : List (List Int)} (o : VOk n wr m ls) (hx : wr[i]? = some x) (h0 : 0 ≤ x) {l : List Int} (hl : ls[x.toNat]? = some l) : VOk n wr (m + 1) (ls.set x.toNat (l ++ [(i : Int)])) := by
  refine ⟨by rw [List.length_set]; exact o.len, fun c l' h => ?_⟩
  rw [List.getElem?_set] at h
  split at h
  · rename_i e
    split at h
    · have := Option.some.inj h
      subst this
      obtain ⟨a1, a2, a3⟩ := o.at_ _ _ hl
      refine ⟨by simp, by rw [List.length_append, List.length_cons, List.length_nil]; omega, fun v hv => ?_⟩
      rcases List.mem_append.mp hv with z | z
      · rw [← e]; exact a3 v z
      · have : v = (i : Int) := by simpa using z
        subst this
        refine .inr ⟨Int.natCast_nonneg _, ?_⟩
        rw [Int.toNat_natCast, hx]
        congr 1
        omega
    · cases h
  · obtain ⟨a1, a2, a3⟩ := o.at_ _ _ h
    exact ⟨a1, by omega, a3⟩
theorem paired_get {α β : Type} {R : α → β → Prop} : ∀ {xs : List α} {ys : List β}, xs.length = ys.length → (∀ (i : Nat) (x : α) (y : β), xs[i]? = some x → ys[i]? = some y → R x y) → Paired R xs ys
  | [], [], _, _ => .nil
  | [], _ :: _, h, _ => by simp at h
  | _ :: _, [], h, _ => by simp at h
  | x :: xs, y :: ys, h, k => .cons (k 0 x y rfl rfl) (paired_get (by simpa using h) fun i a b ha hb => k (i + 1) a b (by simpa using ha) (by simpa using hb))
theorem okM_map {α : Type} [Rep α] [Free α] (k : Nat) : ∀ ls : List (List α), okM k (ls.map fun l => cLst l)
  | [] => trivial
  | l :: ls => ⟨cLst_ok l k, okM_map k ls⟩
theorem okL_mrs (k : Nat) : ∀ (l : List MR), (∀ r, r ∈ l → r.k < k) → okL k l
  | [], _ => trivial
  | r :: l, h => ⟨h r (by simp), okL_mrs k l fun r hr => h r (by simp [hr])⟩
theorem mrs_mem {b n : Nat} {r : MR} (h : r ∈ mrs b n) : r.k < b + 1 + n := by
  unfold mrs at h
  obtain ⟨i, hi, rfl⟩ := List.mem_map.mp h
  have := List.mem_range.mp hi
  show b + 1 + i < _
  omega
def mVers (N : Nat) (ls : List (List Int)) : Mem := cLst (mrs 0 N) :: ls.map fun l => cLst l
theorem cut_vers {N : Nat} {e e' : Env'} {ls : List (List Int)} (hl : ls.length = N) (hf : Frg e e') (he : okE (N + 1) e') : Zq.Cut (N + 1) e (mVers N ls) e' (mVers N ls) := by
  refine ⟨hf, he, ⟨okL_mrs _ _ fun r hr => by have := mrs_mem hr; omega, okM_map _ ls⟩, ?_⟩
  exact List.take_of_length_le (by simp [mVers, hl])
theorem mVers_get {N : Nat} {ls : List (List Int)} {i : Nat} {l : List Int} (h : ls[i]? = some l) : (mVers N ls)[0 + 1 + i]? = some (cLst l) := by
  unfold mVers
  rw [show 0 + 1 + i = i + 1 by omega, List.getElem?_cons_succ, List.getElem?_map, h] <;> rfl
theorem mVers_set {N : Nat} {ls : List (List Int)} {i : Nat} {l : List Int} : (mVers N ls).set (0 + 1 + i) (cLst l) = mVers N (ls.set i l) := by
  unfold mVers
  rw [show 0 + 1 + i = i + 1 by omega, List.set_cons_succ, List.map_set]
theorem melt_vers {N : Nat} {ls : List (List Int)} (hl : ls.length = N) : Melt 0 (mVers N ls) (dy (MR.mk 0)) (dy ls) := by
  refine melt_ll (Nat.le_refl _) (ms := mrs 0 N) rfl (paired_get (by rw [mrs_len, hl]) fun i r l h1 h2 => ⟨Nat.zero_le _, ?_⟩)
  have hi : i < N := by
    have := (List.getElem?_eq_some_iff.mp h1).1
    rwa [mrs_len] at this
  rw [mrs_get hi] at h1
  have := Option.some.inj h1
  subst this
  exact mVers_get h2
/-- one of each cell's versions is plates -/
theorem vok_plates {n : Int} {wr : List Int} {m : Nat} {ls : List (List Int)} (o : VOk n wr m ls) {ps : List Int} (h : Paired (fun (l : List Int) (z : Int) => z ∈ l) ls ps) : POk n wr ps := by
  refine ⟨by rw [← paired_len h]; exact o.len, fun c v hv => ?_⟩
  have key : ∀ {ls : List (List Int)} {ps : List Int} (c : Nat) (v : Int), Paired (fun (l : List Int) (z : Int) => z ∈ l) ls ps → ps[c]? = some v → ∃ l, ls[c]? = some l ∧ v ∈ l := by
    intro ls ps c v h
    induction h generalizing c with
    | nil => intro e; simp at e
    | cons r t ih =>
      intro e
      cases c with
      | zero =>
        have e' := Option.some.inj e
        subst e'
        exact ⟨_, rfl, r⟩
      | succ c =>
        obtain ⟨l, h1, h2⟩ := ih c (by simpa using e)
        exact ⟨l, by simpa using h1, h2⟩
  obtain ⟨l, h1, h2⟩ := key c v h hv
  exact (o.at_ c l h1).2.2 v h2
end K02
end
section
set_option Elab.async false
set_option linter.all false
set_option maxRecDepth 100000
/-! k03's mirror: bits of versions, worlds, and which part. -/
namespace K03
open Zq K02
open IsTh (to)
/-! ### dicts of bits -/
theorem dget_put {β : Type} (m : List (Int × β)) (k : Int) (y : β) (v : Int) : dget (dput m k y) v = if k = v then some y else dget m v := by
  induction m with
  | nil => rfl
  | cons p r ih =>
    show dget (if p.1 = k then (k, y) :: r else p :: dput r k y) v = _
    by_cases h : p.1 = k
    · rw [if_pos h]
      show (if k = v then some y else dget r v) = (if k = v then some y else (if p.1 = v then some p.2 else dget r v))
      by_cases h2 : k = v
      · rw [if_pos h2, if_pos h2]
      · rw [if_neg h2, if_neg h2, if_neg (by rw [h]; exact h2)]
    · rw [if_neg h]
      show (if p.1 = v then some p.2 else dget (dput r k y) v) = (if k = v then some y else (if p.1 = v then some p.2 else dget r v))
      rw [ih]
      by_cases h2 : p.1 = v
      · rw [if_pos h2, if_neg (fun e => h (h2.trans e.symm)), if_pos h2]
      · rw [if_neg h2, if_neg h2]
theorem dput_lenG {β : Type} (m : List (Int × β)) (k : Int) (b : β) : (dput m k b).length ≤ m.length + 1 := by
  induction m with
  | nil => exact Nat.le_refl _
  | cons p r ih =>
    show (if p.1 = k then (k, b) :: r else p :: dput r k b).length ≤ _
    split
    · simp
    · simp only [List.length_cons]; omega
def bit (m : List (Int × Int)) (v : Int) : Int := (dget m v).getD 0
def num (m : List (Int × Int)) (row : List Int) : Int := row.foldl (fun a v => a * 2 + bit m v) 0
abbrev Fn := Tp Int
def fnAt (fs : List Fn) (d : Int) (x : Int) : Int := (fs.getD d.toNat ⟨[]⟩).l.getD x.toNat 0
def bstep (fs : List Fn) (m : List (Int × Int)) (p : Int × Tp Int) : List (Int × Int) := dput m p.1 (fnAt fs p.1 (num m p.2.l))
def beg (b : List Int) : List (Int × Int) := (nums b).foldl (fun m p => dput m (-1 - p.1) p.2) []
def bitsD (rd : List (Tp Int)) (fs : List Fn) (b : List Int) : List (Int × Int) := (nums rd).foldl (bstep fs) (beg b)
theorem bitsD_snoc (rd : List (Tp Int)) (r : Tp Int) (fs : List Fn) (b : List Int) : bitsD (rd ++ [r]) fs b = bstep fs (bitsD rd fs b) ((rd.length : Int), r) := by
  unfold bitsD; rw [nums_snoc, List.foldl_append]; rfl
theorem bitsD_nil (fs : List Fn) (b : List Int) : bitsD [] fs b = beg b := rfl
theorem beg_snoc (b : List Int) (x : Int) : beg (b ++ [x]) = dput (beg b) (-1 - (b.length : Int)) x := by
  unfold beg; rw [nums_snoc, List.foldl_append]; rfl
theorem beg_get (b : List Int) (v : Int) : dget (beg b) v = if v < 0 then b[(-1 - v).toNat]? else none := by
  induction b using snoc_ind generalizing v with
  | h0 => show (none : Option Int) = _; split <;> simp
  | h1 xs x ih =>
    rw [beg_snoc, dget_put, ih]
    by_cases h : -1 - (xs.length : Int) = v
    · rw [if_pos h, if_pos (by omega), show (-1 - v).toNat = xs.length by omega]; simp
    · rw [if_neg h]
      split
      · rename_i h0
        by_cases h1 : (-1 - v).toNat < xs.length
        · rw [List.getElem?_append_left h1]
        · rw [List.getElem?_eq_none (by omega), List.getElem?_eq_none]
          rw [List.length_append]; simp only [List.length_cons, List.length_nil]; omega
      · rfl
theorem beg_keys (b : List Int) : Keys1 (beg b) := by
  induction b using snoc_ind with
  | h0 => exact keys1_nil
  | h1 xs x ih => rw [beg_snoc]; exact keys1_put ih _ _
theorem beg_len (b : List Int) : (beg b).length ≤ b.length := by
  induction b using snoc_ind with
  | h0 => exact Nat.le_refl _
  | h1 xs x ih => rw [beg_snoc, List.length_append]; have := dput_lenG (beg xs) (-1 - (xs.length : Int)) x; simp only [List.length_cons, List.length_nil]; omega
/-! ### what is of the right form -/
def isB (x : Int) : Prop := 0 ≤ x ∧ x < 2
structure FnsOk (rd : List (Tp Int)) (fs : List Fn) : Prop where
  len : fs.length = rd.length
  at_ : ∀ (i : Nat) (row : Tp Int), rd[i]? = some row → ∃ f : Fn, fs[i]? = some f ∧ f.l.length = 2 ^ row.l.length ∧ ∀ x, x ∈ f.l → isB x
structure BegOk (n : Int) (b : List Int) : Prop where
  len : b.length = n.toNat
  at_ : ∀ x, x ∈ b → isB x
/-- rows tell versions of before -/
structure RdOk (n : Int) (rd : List (Tp Int)) : Prop where
  n0 : 0 ≤ n
  at_ : ∀ (i : Nat) (row : Tp Int), rd[i]? = some row → row.l.length ≤ 3 ∧ ∀ s, s ∈ row.l → -n ≤ s ∧ s < (i : Int)
theorem num_b {m : List (Int × Int)} (h : ∀ v, isB (bit m v)) : ∀ (row : List Int), 0 ≤ num m row ∧ num m row < 2 ^ row.length := by
  intro row
  induction row using snoc_ind with
  | h0 => exact ⟨Int.le_refl _, by show (0 : Int) < 2 ^ 0; decide⟩
  | h1 xs x ih =>
    have e : num m (xs ++ [x]) = num m xs * 2 + bit m x := by unfold num; rw [List.foldl_append]; rfl
    have hb := h x
    unfold isB at hb
    rw [e, List.length_append, List.length_cons, List.length_nil, Int.pow_add]
    have e2 : (2 : Int) ^ (0 + 1) = 2 := by decide
    rw [e2]
    constructor
    · omega
    · omega
/-- all that is known of the bits behind i deeds -/
structure DOk (n : Int) (i : Nat) (m : List (Int × Int)) : Prop where
  keys : Keys1 m
  len : m.length ≤ n.toNat + i
  has : ∀ v, -n ≤ v → v < (i : Int) → (dget m v).isSome = true
  b : ∀ v, isB (bit m v)
theorem isB_getD {xs : List Int} (h : ∀ x, x ∈ xs → isB x) (i : Nat) : isB (xs.getD i 0) := by
  rw [List.getD_eq_getElem?_getD]
  cases e : xs[i]? with
  | none => exact ⟨by decide, by decide⟩
  | some y => exact h y (List.mem_of_getElem? e)
theorem dok0 {n : Int} {b : List Int} (h0 : 0 ≤ n) (h : BegOk n b) : DOk n 0 (beg b) := by
  refine ⟨beg_keys b, by have := beg_len b; have := h.len; omega, fun v h1 h2 => ?_, fun v => ?_⟩
  · rw [beg_get, if_pos (by omega), List.getElem?_eq_getElem (by have := h.len; omega)]; rfl
  · unfold bit
    rw [beg_get]
    split
    · have := isB_getD h.at_ (-1 - v).toNat
      rw [List.getD_eq_getElem?_getD] at this; exact this
    · exact ⟨by decide, by decide⟩
theorem fn_in {rd : List (Tp Int)} {fs : List Fn} (f : FnsOk rd fs) {i : Nat} {row : Tp Int} (hr : rd[i]? = some row) {m : List (Int × Int)} (h : ∀ v, isB (bit m v)) :
    ∃ g : Fn, fs[i]? = some g ∧ g.l[(num m row.l).toNat]? = some (fnAt fs (i : Int) (num m row.l)) ∧ 0 ≤ num m row.l ∧ isB (fnAt fs (i : Int) (num m row.l)) := by
  obtain ⟨g, h1, h2, h3⟩ := f.at_ i row hr
  have nb := num_b h row.l
  have e0 : fs.getD (i : Int).toNat ⟨[]⟩ = g := by rw [List.getD_eq_getElem?_getD, Int.toNat_natCast, h1]; rfl
  have lt : (num m row.l).toNat < g.l.length := by
    rw [h2]
    have : ((num m row.l).toNat : Int) < ((2 ^ row.l.length : Nat) : Int) := by
      rw [Int.toNat_of_nonneg nb.1]; push_cast; exact nb.2
    exact Int.ofNat_lt.mp this
  refine ⟨g, h1, ?_, nb.1, ?_⟩
  · unfold fnAt; rw [e0]; exact getD_get lt
  · unfold fnAt; rw [e0]; exact isB_getD h3 _
theorem dok_step {n : Int} {rd : List (Tp Int)} {fs : List Fn} (f : FnsOk rd fs) {i : Nat} {row : Tp Int} (hr : rd[i]? = some row) {m : List (Int × Int)} (h : DOk n i m) : DOk n (i + 1) (bstep fs m ((i : Int), row)) := by
  obtain ⟨g, _, _, _, hb⟩ := fn_in f hr h.b
  refine ⟨keys1_put h.keys _ _, ?_, fun v h1 h2 => ?_, fun v => ?_⟩
  · have := dput_lenG m (i : Int) (fnAt fs (i : Int) (num m row.l))
    have := h.len
    show (dput m (i : Int) (fnAt fs (i : Int) (num m row.l))).length ≤ _
    omega
  · show (dget (dput m (i : Int) _) v).isSome = true
    rw [dget_put]
    split
    · rfl
    · exact h.has v h1 (by omega)
  · show isB ((dget (dput m (i : Int) _) v).getD 0)
    rw [dget_put]
    split
    · exact hb
    · exact h.b v
theorem take_snoc {α : Type} {xs : List α} {i : Nat} {x : α} (h : xs[i]? = some x) : xs.take (i + 1) = xs.take i ++ [x] := by
  rw [List.take_add_one, h]; rfl
theorem dok_take {n : Int} {rd : List (Tp Int)} {fs : List Fn} {b : List Int} (r : RdOk n rd) (f : FnsOk rd fs) (hb : BegOk n b) : ∀ i, i ≤ rd.length → DOk n i (bitsD (rd.take i) fs b)
  | 0, _ => by rw [List.take_zero]; exact dok0 r.n0 hb
  | i + 1, h => by
    have ih := dok_take r f hb i (by omega)
    have hr : rd[i]? = some rd[i] := List.getElem?_eq_getElem (by omega)
    rw [take_snoc hr, bitsD_snoc, List.length_take, Nat.min_eq_left (by omega)]
    exact dok_step f hr ih
theorem dok {n : Int} {rd : List (Tp Int)} {fs : List Fn} {b : List Int} (r : RdOk n rd) (f : FnsOk rd fs) (hb : BegOk n b) : DOk n rd.length (bitsD rd fs b) := by
  have := dok_take r f hb rd.length (Nat.le_refl _)
  rwa [List.take_length] at this
theorem DOk.get {n : Int} {i : Nat} {m : List (Int × Int)} (h : DOk n i m) {v : Int} (h1 : -n ≤ v) (h2 : v < (i : Int)) : dget m v = some (bit m v) := by
  have := h.has v h1 h2
  unfold bit
  cases e : dget m v with
  | none => rw [e] at this; cases this
  | some y => rfl
/-! ### histories -/
theorem la_low {n : Int} {ks : List Kind} (k : KsOk n ks) {js : List Int} (hj : JOk ks js) : ∀ v, v ∈ (hist n ks js).la → -n ≤ v ∧ v < (js.length : Int) := fun v hv => by
  obtain ⟨i, hi⟩ := List.mem_iff_getElem?.mp hv
  have o := hok k js hj.at_
  have lo := la_ok k js hj.at_
  have hl : i < (hist n ks js).la.length := (List.getElem?_eq_some_iff.mp hi).1
  have := o.pr i v hi
  have := o.ll
  have := k.n1
  rcases lo.at_ i v hi with z | ⟨z, _⟩ <;> omega
theorem pl_low {n : Int} {ks : List Kind} (k : KsOk n ks) {js ps : List Int} (hj : JOk ks js) (hp : POk n (hist n ks js).wr ps) : ∀ v, v ∈ ps → -n ≤ v ∧ v < (js.length : Int) := fun v hv => by
  obtain ⟨i, hi⟩ := List.mem_iff_getElem?.mp hv
  have o := hok k js hj.at_
  have hl : i < ps.length := (List.getElem?_eq_some_iff.mp hi).1
  have := hp.len
  have := k.n1
  rcases hp.at_ i v hi with z | ⟨z, z2⟩
  · omega
  · have := (List.getElem?_eq_some_iff.mp z2).1
    have := o.wl
    omega
theorem rd_ok {n : Int} {ks : List Kind} (k : KsOk n ks) : ∀ js : List Int, JOk ks js → RdOk n (hist n ks js).rd := by
  intro js
  induction js using snoc_ind with
  | h0 => intro _; exact ⟨by have := k.n1; omega, fun i row h => by simp [hist, nums, hst0] at h⟩
  | h1 xs x ih =>
    intro hj
    have hx : JOk ks xs := ⟨by have := hj.len; rw [List.length_append] at this; omega, fun j h => hj.at_ j (by simp [h])⟩
    have o := hok k xs hx.at_
    refine ⟨by have := k.n1; omega, fun i row h => ?_⟩
    rw [hist_snoc] at h
    have h' : ((hist n ks xs).rd ++ [readOf (hist n ks xs).la (kat ks x)])[i]? = some row := h
    by_cases hi : i < (hist n ks xs).rd.length
    · rw [List.getElem?_append_left hi] at h'
      exact (ih hx).at_ i row h'
    · rw [List.getElem?_append_right (by omega)] at h'
      have h0 : i - (hist n ks xs).rd.length = 0 := by
        have := (List.getElem?_eq_some_iff.mp h').1
        simp at this; omega
      rw [h0] at h'
      have e : readOf (hist n ks xs).la (kat ks x) = row := by simpa using h'
      subst e
      have ok := hj.ok k (j := x) (by simp)
      refine ⟨by simp [readOf]; exact ok.len, fun s hs => ?_⟩
      obtain ⟨r, hr1, rfl⟩ := List.mem_map.mp hs
      have bb := ok.r0 r hr1
      have hl : r.toNat < (hist n ks xs).la.length := by rw [o.ll]; omega
      have lo := la_low k hx ((hist n ks xs).la[r.toNat]) (List.getElem_mem hl)
      rw [List.getD_eq_getElem?_getD, List.getElem?_eq_getElem hl]
      have := o.rl
      show -n ≤ (hist n ks xs).la[r.toNat] ∧ (hist n ks xs).la[r.toNat] < (i : Int)
      omega
theorem rd_lens (n : Int) (ks : List Kind) : ∀ js : List Int, (hist n ks js).rd.map (fun r => r.l.length) = js.map fun j => (kat ks j).2.l.length := by
  intro js
  induction js using snoc_ind with
  | h0 => rfl
  | h1 xs x ih =>
    rw [hist_snoc, List.map_append, ← ih]
    show ((hist n ks xs).rd ++ [readOf (hist n ks xs).la (kat ks x)]).map _ = _
    rw [List.map_append]
    congr 1
    simp [readOf]
/-! ### worlds, told of any thing -/
def fnsAll : List Nat → List Th → Bool
  | k :: ks, x :: xs => isBits (2 ^ k) x && fnsAll ks xs
  | _, _ => true
def isFns (rd : List (Tp Int)) : Th → Bool
  | .tup l => decide (l.length = rd.length) && fnsAll (rd.map fun r => r.l.length) l
  | _ => false
def thI : Th → Int
  | .int i => i
  | _ => 0
def thIs : Th → List Int
  | .tup l => l.map thI
  | _ => []
def thFs : Th → List Fn
  | .tup l => l.map fun x => ⟨thIs x⟩
  | _ => []
def parts (rd : List (Tp Int)) (la ps : List Int) (fs : List Fn) (one two : List Int) : Bool :=
  (ps.all fun v => decide (bit (bitsD rd fs one) v = bit (bitsD rd fs two) v)) && (la.any fun v => !decide (bit (bitsD rd fs one) v = bit (bitsD rd fs two) v))
def hasForm (n : Int) (rd : List (Tp Int)) : Th → Bool
  | .tup [f, o, t] => isFns rd f && isBits n o && isBits n t
  | _ => false
def isPart (n : Int) (rd : List (Tp Int)) (la ps : List Int) : Th → Bool
  | .tup [f, o, t] => hasForm n rd (.tup [f, o, t]) && parts rd la ps (thFs f) (thIs o) (thIs t)
  | _ => false
theorem bits_in {n : Int} {x : Th} (h : isBits n x = true) : x = to (Tp.mk (thIs x)) ∧ BegOk n (thIs x) ∧ ((thIs x).length : Int) = n := by
  cases x with
  | tup l =>
    unfold isBits at h
    rw [Bool.and_eq_true] at h
    have hl := of_decide_eq_true h.1
    have ha := List.all_eq_true.mp h.2
    have all : ∀ y, y ∈ l → ∃ i : Int, y = .int i ∧ isB i := fun y hy => by
      have := ha y hy
      cases y with
      | int i =>
        unfold below at this
        rw [Bool.and_eq_true] at this
        exact ⟨i, rfl, of_decide_eq_true this.1, of_decide_eq_true this.2⟩
      | _ => cases this
    refine ⟨?_, ⟨by show (l.map thI).length = _; rw [List.length_map]; omega, fun y hy => ?_⟩, by show (((l.map thI).length : Nat) : Int) = n; rw [List.length_map]; exact hl⟩
    · show Th.tup l = Th.tup ((l.map thI).map Th.int)
      congr 1
      rw [List.map_map]
      have : l.map (Th.int ∘ thI) = l.map id := List.map_congr_left fun y hy => by
        obtain ⟨i, rfl, _⟩ := all y hy; rfl
      rw [this, List.map_id]
    · obtain ⟨z, hz, rfl⟩ := List.mem_map.mp hy
      obtain ⟨i, rfl, hb⟩ := all z hz
      exact hb
  | _ => cases h
theorem fnsAll_in : ∀ {ks : List Nat} {l : List Th}, l.length = ks.length → fnsAll ks l = true → ∀ (i : Nat) (k : Nat), ks[i]? = some k → ∃ x, l[i]? = some x ∧ isBits (2 ^ k) x = true
  | [], [], _, _, i, k, h => by simp at h
  | k :: ks, [], hl, _, _, _, _ => by simp at hl
  | [], x :: xs, hl, _, _, _, _ => by simp at hl
  | k :: ks, x :: xs, hl, h, i, k', hk => by
    unfold fnsAll at h
    rw [Bool.and_eq_true] at h
    cases i with
    | zero => simp at hk; subst hk; exact ⟨x, rfl, h.1⟩
    | succ i =>
      obtain ⟨y, h1, h2⟩ := fnsAll_in (by simpa using hl) h.2 i k' (by simpa using hk)
      exact ⟨y, by simpa using h1, h2⟩
theorem fns_in {rd : List (Tp Int)} {x : Th} (h : isFns rd x = true) : x = to (Tp.mk (thFs x)) ∧ FnsOk rd (thFs x) := by
  cases x with
  | tup l =>
    unfold isFns at h
    rw [Bool.and_eq_true] at h
    have hl := of_decide_eq_true h.1
    have key : ∀ (i : Nat) (row : Tp Int), rd[i]? = some row → ∃ y, l[i]? = some y ∧ isBits (2 ^ row.l.length : Nat) y = true := fun i row hr => by
      obtain ⟨y, h1, h2⟩ := fnsAll_in (by rw [List.length_map]; exact hl) h.2 i row.l.length (by rw [List.getElem?_map, hr]; rfl)
      exact ⟨y, h1, by push_cast; exact h2⟩
    refine ⟨?_, ⟨by show (l.map _).length = _; rw [List.length_map]; exact hl, fun i row hr => ?_⟩⟩
    · show Th.tup l = Th.tup ((l.map fun x => (⟨thIs x⟩ : Fn)).map to)
      congr 1
      rw [List.map_map]
      have : l.map (to ∘ fun x => (⟨thIs x⟩ : Fn)) = l.map id := List.map_congr_left fun y hy => by
        obtain ⟨i, hi⟩ := List.mem_iff_getElem?.mp hy
        have hlt : i < rd.length := by rw [← hl]; exact (List.getElem?_eq_some_iff.mp hi).1
        obtain ⟨z, h1, h2⟩ := key i _ (List.getElem?_eq_getElem hlt)
        rw [hi] at h1; cases h1
        exact (bits_in h2).1.symm
      rw [this, List.map_id]
    · obtain ⟨z, h1, h2⟩ := key i row hr
      have q := bits_in h2
      refine ⟨⟨thIs z⟩, by show (l.map _)[i]? = _; rw [List.getElem?_map, h1]; rfl, ?_, q.2.1.at_⟩
      have := q.2.2
      show (thIs z).length = _
      omega
  | _ => cases h
theorem bits_to {n : Int} {b : List Int} (h : BegOk n b) (h0 : 0 ≤ n) : isBits n (to (Tp.mk b)) = true ∧ thIs (to (Tp.mk b)) = b := by
  constructor
  · show (decide (((b.map Th.int).length : Int) = n) && (b.map Th.int).all (below 2)) = true
    rw [List.length_map, decide_eq_true (by have := h.len; omega), Bool.true_and, List.all_eq_true]
    intro x hx
    obtain ⟨i, hi, rfl⟩ := List.mem_map.mp hx
    have := h.at_ i hi
    unfold isB at this
    show (decide (0 ≤ i) && decide (i < 2)) = true
    rw [decide_eq_true this.1, decide_eq_true this.2]; rfl
  · show (b.map Th.int).map thI = b
    rw [List.map_map]
    have : b.map (thI ∘ Th.int) = b.map id := List.map_congr_left fun y hy => rfl
    rw [this, List.map_id]
theorem fnsAll_to : ∀ (ks : List Nat) (fs : List Fn), fs.length = ks.length → (∀ (i : Nat) (k : Nat), ks[i]? = some k → ∃ f : Fn, fs[i]? = some f ∧ f.l.length = 2 ^ k ∧ ∀ x, x ∈ f.l → isB x) → fnsAll ks (fs.map to) = true
  | [], [], _, _ => rfl
  | k :: ks, [], hl, _ => by simp at hl
  | [], x :: xs, hl, _ => by simp at hl
  | k :: ks, f :: fs, hl, h => by
    obtain ⟨g, h1, h2, h3⟩ := h 0 k rfl
    simp at h1; subst h1
    rw [List.map_cons]
    unfold fnsAll
    rw [Bool.and_eq_true]
    refine ⟨?_, fnsAll_to ks fs (by simpa using hl) fun i k' hk => ?_⟩
    · have := (bits_to (n := ((2 ^ k : Nat) : Int)) (b := f.l) ⟨by rw [h2]; omega, h3⟩ (by omega)).1
      push_cast at this
      exact this
    · obtain ⟨g, q1, q2, q3⟩ := h (i + 1) k' (by simpa using hk)
      exact ⟨g, by simpa using q1, q2, q3⟩
theorem fns_to {rd : List (Tp Int)} {fs : List Fn} (h : FnsOk rd fs) : isFns rd (to (Tp.mk fs)) = true ∧ thFs (to (Tp.mk fs)) = fs := by
  constructor
  · show (decide ((fs.map to).length = rd.length) && fnsAll (rd.map fun r => r.l.length) (fs.map to)) = true
    rw [List.length_map, decide_eq_true h.len, Bool.true_and]
    refine fnsAll_to _ _ (by rw [List.length_map]; exact h.len) fun i k hk => ?_
    rw [List.getElem?_map] at hk
    cases e : rd[i]? with
    | none => rw [e] at hk; cases hk
    | some row =>
      rw [e] at hk
      obtain rfl : row.l.length = k := by simpa using hk
      exact h.at_ i row e
  · show (fs.map to).map (fun x => (⟨thIs x⟩ : Fn)) = fs
    rw [List.map_map]
    have : fs.map ((fun x => (⟨thIs x⟩ : Fn)) ∘ to) = fs.map id := List.map_congr_left fun f hf => by
      show (⟨(f.l.map Th.int).map thI⟩ : Fn) = f
      rw [List.map_map]
      have : f.l.map (thI ∘ Th.int) = f.l.map id := List.map_congr_left fun y hy => rfl
      rw [this, List.map_id]
    rw [this, List.map_id]
abbrev World3 := T3 (Tp Fn) (Tp Int) (Tp Int)
structure WOk (n : Int) (rd : List (Tp Int)) (w : World3) : Prop where
  f : FnsOk rd w.a.l
  o : BegOk n w.b.l
  t : BegOk n w.c.l
theorem part_to {n : Int} {rd : List (Tp Int)} {la ps : List Int} {w : World3} (h : WOk n rd w) (h0 : 0 ≤ n) : isPart n rd la ps (to w) = parts rd la ps w.a.l w.b.l w.c.l := by
  have f := fns_to h.f
  have o := bits_to h.o h0
  have t := bits_to h.t h0
  show (hasForm n rd (.tup [to w.a, to w.b, to w.c]) && parts rd la ps (thFs (to w.a)) (thIs (to w.b)) (thIs (to w.c))) = _
  show ((isFns rd (to w.a) && isBits n (to w.b) && isBits n (to w.c)) && parts rd la ps (thFs (to w.a)) (thIs (to w.b)) (thIs (to w.c))) = _
  rw [show to w.a = to (Tp.mk w.a.l) from rfl, show to w.b = to (Tp.mk w.b.l) from rfl, show to w.c = to (Tp.mk w.c.l) from rfl, f.1, f.2, o.1, o.2, t.1, t.2]
  rfl
/-! ### the first fact -/
theorem clo_old {ps : List Int} {xs : List (Tp Int)} {x : Tp Int} {v : Int} (h : v ≠ (xs.length : Int)) : memD (clo (xs ++ [x]) ps) v = memD (clo xs ps) v := by
  rw [clo_snoc]; unfold cstep; split
  · rw [memD_put, decide_eq_false (fun e => h e.symm)]; rfl
  · rfl
theorem clo_pl {ps : List Int} {v : Int} (h : v ∈ ps) : ∀ rd : List (Tp Int), memD (clo rd ps) v = true := by
  intro rd
  induction rd using snoc_ind with
  | h0 => rw [clo_nil, plD_mem]; exact decide_eq_true h
  | h1 xs x ih => rw [clo_snoc]; exact cstep_mono ih
theorem clo_closed {n : Int} {ps : List Int} : ∀ rd : List (Tp Int), RdOk n rd → ∀ (i : Nat) (row : Tp Int), rd[i]? = some row → (∀ s, s ∈ row.l → memD (clo rd ps) s = true) → memD (clo rd ps) (i : Int) = true := by
  intro rd
  induction rd using snoc_ind with
  | h0 => intro _ i row h; simp at h
  | h1 xs x ih =>
    intro r i row hr hs
    have src := (r.at_ i row hr).2
    have rx : RdOk n xs := ⟨r.n0, fun j row' h => r.at_ j row' (by rw [List.getElem?_append_left (List.getElem?_eq_some_iff.mp h).1]; exact h)⟩
    have hi : i < (xs ++ [x]).length := (List.getElem?_eq_some_iff.mp hr).1
    rw [List.length_append, List.length_cons, List.length_nil] at hi
    have hs' : ∀ s, s ∈ row.l → memD (clo xs ps) s = true := fun s h => by
      have := hs s h
      rwa [clo_old (by have := src s h; omega)] at this
    by_cases hl : i < xs.length
    · rw [List.getElem?_append_left hl] at hr
      rw [clo_snoc]
      exact cstep_mono (ih rx i row hr hs')
    · have e : i = xs.length := by omega
      subst e
      have ex : x = row := by simpa using hr
      subst ex
      rw [clo_snoc]
      unfold cstep
      rw [if_pos (List.all_eq_true.mpr hs'), memD_put, decide_eq_true rfl]; rfl
/-- the functions of parting's world, from the versions that are derived -/
def fnOf (m : List (Int × Bool)) (p : Int × Tp Int) : Fn := ⟨if memD m p.1 = true then List.replicate (2 ^ p.2.l.length) 0 else 0 :: List.replicate (2 ^ p.2.l.length - 1) 1⟩
def wFns (rd : List (Tp Int)) (ps : List Int) : List Fn := (nums rd).map (fnOf (clo rd ps))
def wOne (n : Int) : List Int := List.replicate n.toNat 0
def wTwo (n : Int) (rd : List (Tp Int)) (ps : List Int) : List Int := (frs n.toNat).map fun v => if memD (clo rd ps) v = true then 0 else 1
theorem wFns_get {rd : List (Tp Int)} {ps : List Int} {i : Nat} {row : Tp Int} (h : rd[i]? = some row) : (wFns rd ps)[i]? = some (fnOf (clo rd ps) ((i : Int), row)) := by
  unfold wFns; rw [List.getElem?_map, nums_get h]; rfl
theorem one_isB : isB 1 := ⟨by decide, by decide⟩
theorem zero_isB : isB 0 := ⟨by decide, by decide⟩
theorem wFns_ok (rd : List (Tp Int)) (ps : List Int) : FnsOk rd (wFns rd ps) := by
  refine ⟨by unfold wFns; rw [List.length_map, nums_len], fun i row h => ⟨_, wFns_get h, ?_, fun x hx => ?_⟩⟩
  · have : 1 ≤ 2 ^ row.l.length := Nat.one_le_two_pow
    unfold fnOf
    dsimp only
    split
    · rw [List.length_replicate]
    · rw [List.length_cons, List.length_replicate]; omega
  · unfold fnOf at hx
    dsimp only at hx
    split at hx
    · rw [(List.mem_replicate.mp hx).2]; exact zero_isB
    · rcases List.mem_cons.mp hx with e | e
      · rw [e]; exact zero_isB
      · rw [(List.mem_replicate.mp e).2]; exact one_isB
theorem wOne_ok (n : Int) : BegOk n (wOne n) := ⟨by simp [wOne], fun x hx => by rw [(List.mem_replicate.mp hx).2]; exact zero_isB⟩
theorem wTwo_ok (n : Int) (rd : List (Tp Int)) (ps : List Int) : BegOk n (wTwo n rd ps) := ⟨by simp [wTwo, frs_len], fun x hx => by
  obtain ⟨v, _, rfl⟩ := List.mem_map.mp hx
  split
  · exact zero_isB
  · exact one_isB⟩
def wTold (n : Int) (rd : List (Tp Int)) (ps : List Int) : World3 := ⟨⟨wFns rd ps⟩, ⟨wOne n⟩, ⟨wTwo n rd ps⟩⟩
theorem wTold_ok (n : Int) (rd : List (Tp Int)) (ps : List Int) : WOk n rd (wTold n rd ps) := ⟨wFns_ok rd ps, wOne_ok n, wTwo_ok n rd ps⟩
theorem num_zero {m : List (Int × Int)} : ∀ {row : List Int}, (∀ s, s ∈ row → bit m s = 0) → num m row = 0 := by
  intro row
  induction row using snoc_ind with
  | h0 => intro _; rfl
  | h1 xs x ih =>
    intro h
    have e : num m (xs ++ [x]) = num m xs * 2 + bit m x := by unfold num; rw [List.foldl_append]; rfl
    rw [e, ih fun s hs => h s (by simp [hs]), h x (by simp)]; rfl
theorem num_pos {m : List (Int × Int)} (hb : ∀ v, isB (bit m v)) : ∀ {row : List Int} {s : Int}, s ∈ row → bit m s = 1 → 1 ≤ num m row := by
  intro row
  induction row using snoc_ind with
  | h0 => intro s h; simp at h
  | h1 xs x ih =>
    intro s h e1
    have e : num m (xs ++ [x]) = num m xs * 2 + bit m x := by unfold num; rw [List.foldl_append]; rfl
    have b := num_b hb xs
    have bx := hb x
    unfold isB at bx
    rw [e]
    rcases List.mem_append.mp h with z | z
    · have := ih z e1; omega
    · have : s = x := by simpa using z
      subst this; omega
theorem first_bits {n : Int} {rd : List (Tp Int)} (ps : List Int) (r : RdOk n rd) : ∀ i, i ≤ rd.length → ∀ v, -n ≤ v → v < (i : Int) →
    bit (bitsD (rd.take i) (wFns rd ps) (wOne n)) v = 0 ∧ bit (bitsD (rd.take i) (wFns rd ps) (wTwo n rd ps)) v = if memD (clo rd ps) v = true then 0 else 1
  | 0, _, v, h1, h2 => by
    have hv : (-1 - v).toNat < n.toNat := by omega
    have e : -1 - (((-1 - v).toNat : Nat) : Int) = v := by omega
    rw [List.take_zero]
    unfold bit
    rw [bitsD_nil, bitsD_nil, beg_get, beg_get, if_pos (by omega), if_pos (by omega)]
    constructor
    · unfold wOne; rw [List.getElem?_replicate, if_pos hv]; rfl
    · unfold wTwo; rw [List.getElem?_map, frs_get hv, e]; rfl
  | i + 1, h, v, h1, h2 => by
    have hr : rd[i]? = some rd[i] := List.getElem?_eq_getElem (by omega)
    have ih := first_bits ps r i (by omega)
    have src := (r.at_ i _ hr).2
    have d1 := dok_take r (wFns_ok rd ps) (wOne_ok n) i (by omega)
    have d2 := dok_take r (wFns_ok rd ps) (wTwo_ok n rd ps) i (by omega)
    rw [take_snoc hr, bitsD_snoc, bitsD_snoc, List.length_take, Nat.min_eq_left (by omega)]
    have n1 : num (bitsD (rd.take i) (wFns rd ps) (wOne n)) rd[i].l = 0 := num_zero fun s hs => (ih s (src s hs).1 (src s hs).2).1
    have eg : ∀ x, fnAt (wFns rd ps) (i : Int) x = (fnOf (clo rd ps) ((i : Int), rd[i])).l.getD x.toNat 0 := fun x => by
      have e0 : (wFns rd ps).getD (i : Int).toNat ⟨[]⟩ = fnOf (clo rd ps) ((i : Int), rd[i]) := by rw [List.getD_eq_getElem?_getD, Int.toNat_natCast, wFns_get hr]; rfl
      unfold fnAt
      rw [e0]
    unfold bit bstep
    rw [dget_put, dget_put]
    by_cases hv : (i : Int) = v
    · rw [if_pos hv, if_pos hv]
      show fnAt _ _ _ = 0 ∧ fnAt _ _ _ = _
      rw [n1, eg, eg]
      have p1 : 1 ≤ 2 ^ rd[i].l.length := Nat.one_le_two_pow
      rw [← hv]
      unfold fnOf
      dsimp only
      by_cases hm : memD (clo rd ps) (i : Int) = true
      · rw [if_pos hm, if_pos hm]
        have z : ∀ j : Nat, (List.replicate (2 ^ rd[i].l.length) (0 : Int)).getD j 0 = 0 := fun j => by
          rw [List.getD_eq_getElem?_getD, List.getElem?_replicate]; split <;> rfl
        exact ⟨z _, z _⟩
      · rw [if_neg hm, if_neg hm]
        refine ⟨rfl, ?_⟩
        have ex : ∃ s, s ∈ rd[i].l ∧ memD (clo rd ps) s ≠ true := by
          refine Classical.byContradiction fun no => hm (clo_closed rd r i _ hr fun s hs => ?_)
          exact Classical.byContradiction fun q => no ⟨s, hs, q⟩
        obtain ⟨s, hs, hq⟩ := ex
        have b1 := (ih s (src s hs).1 (src s hs).2).2
        rw [if_neg hq] at b1
        have np := num_pos d2.b hs b1
        have nb := num_b d2.b rd[i].l
        generalize num (bitsD (rd.take i) (wFns rd ps) (wTwo n rd ps)) rd[i].l = x at np nb
        have hx : x.toNat - 1 < 2 ^ rd[i].l.length - 1 := by
          have : (x.toNat : Int) < ((2 ^ rd[i].l.length : Nat) : Int) := by rw [Int.toNat_of_nonneg nb.1]; push_cast; exact nb.2
          have := Int.ofNat_lt.mp this
          omega
        rw [List.getD_eq_getElem?_getD, show x.toNat = (x.toNat - 1) + 1 by omega, List.getElem?_cons_succ, List.getElem?_replicate, if_pos hx]; rfl
    · rw [if_neg hv, if_neg hv]
      exact ih v h1 (by omega)
theorem first_fact {n : Int} {ks : List Kind} (k : KsOk n ks) {js ps : List Int} (hj : JOk ks js) (hp : POk n (hist n ks js).wr ps) :
    parts (hist n ks js).rd (hist n ks js).la ps (wFns (hist n ks js).rd ps) (wOne n) (wTwo n (hist n ks js).rd ps) = !decide (lostOf (hist n ks js).rd (hist n ks js).la ps = []) := by
  have r := rd_ok k js hj
  have o := hok k js hj.at_
  have fb := first_bits ps r (hist n ks js).rd.length (Nat.le_refl _)
  rw [List.take_length] at fb
  rw [o.rl] at fb
  have h1 : (ps.all fun v => decide (bit (bitsD (hist n ks js).rd (wFns (hist n ks js).rd ps) (wOne n)) v = bit (bitsD (hist n ks js).rd (wFns (hist n ks js).rd ps) (wTwo n (hist n ks js).rd ps)) v)) = true := by
    rw [List.all_eq_true]
    intro v hv
    have b := pl_low k hj hp v hv
    have := fb v b.1 b.2
    rw [if_pos (clo_pl hv _)] at this
    rw [this.1, this.2]; rfl
  unfold parts
  rw [h1, Bool.true_and]
  by_cases hl : lostOf (hist n ks js).rd (hist n ks js).la ps = []
  · rw [decide_eq_true hl]
    show _ = false
    rw [List.any_eq_false]
    intro v hv
    have b := la_low k hj v hv
    have := fb v b.1 b.2
    rw [if_pos (lost_nil hl hv)] at this
    rw [this.1, this.2]; decide
  · rw [decide_eq_false hl]
    show _ = true
    rw [List.any_eq_true]
    have ex : ∃ v, v ∈ (hist n ks js).la ∧ memD (clo (hist n ks js).rd ps) v ≠ true := by
      refine Classical.byContradiction fun no => hl ?_
      unfold lostOf
      rw [List.map_eq_nil_iff, List.filter_eq_nil_iff]
      rintro ⟨i, v⟩ hm
      have hv := (nums_mem hm).2.2
      have : memD (clo (hist n ks js).rd ps) v = true := Classical.byContradiction fun q => no ⟨v, List.mem_of_getElem? hv, q⟩
      simp [this]
    obtain ⟨v, hv, hq⟩ := ex
    have b := la_low k hj v hv
    have := fb v b.1 b.2
    rw [if_neg hq] at this
    exact ⟨v, hv, by rw [this.1, this.2]; decide⟩
end K03
end
section
set_option Elab.async false
set_option linter.all false
set_option maxRecDepth 100000
set_option maxHeartbeats 4000000
namespace K03
open PySem PySem.Spec PyProof.Rows L2 Zq K02
open C8 (Cal Mak pe_c pe_mk pe_gc)
local macro_rules | `(tactic| walk_at "zq") => `(tactic| first
  | with_reducible refine ws_seq ?_
  | with_reducible refine ws_asg ?_
  | (with_reducible apply ws_asgG)
  | with_reducible refine ws_next ?_
  | with_reducible refine ws_ret ?_
  | with_reducible refine ws_if ?_
  | with_reducible refine ws_dput (β := Bool) ?_
  | with_reducible refine ws_drop (te := tCall _ _ _ _) ?_
  | with_reducible refine as_dy ?_
  | ((with_reducible apply we_var); focus rfl)
  | with_reducible refine we_int ?_
  | with_reducible refine we_bl ?_
  | with_reducible refine we_non ?_
  | with_reducible refine we_ty ?_
  | with_reducible refine we_str ?_
  | with_reducible refine we_op2 ?_
  | with_reducible refine we_neg ?_
  | with_reducible refine we_andV ?_
  | with_reducible refine we_orV ?_
  | with_reducible refine we_notV ?_
  | with_reducible refine we_chain ?_
  | with_reducible refine we_if ?_
  | with_reducible refine we_cb ?_
  | with_reducible refine tup_pair ?_
  | with_reducible refine tup_three ?_
  | with_reducible refine tup_nil ?_
  | with_reducible refine we_call ?_
  | with_reducible refine we_callD ?_
  | with_reducible refine we_tup ?_
  | refine we_cells (Tx.cl (by assumption)) (Tx.nc (by assumption)) ?_
  | refine we_kinds (Tx.cl (by assumption)) (Tx.nk (by assumption)) ?_
  | with_reducible refine wt_test ?_
  | with_reducible refine wt_B ?_
  | with_reducible refine wt_not ?_
  | with_reducible refine wt_and ?_
  | with_reducible refine wt_or ?_
  | with_reducible refine wt_yes ?_
  | with_reducible refine wa_cons ?_
  | with_reducible refine wa_nil ?_
  | with_reducible refine rr_II ?_
  | with_reducible refine rr_isTrue ?_
  | with_reducible refine rr_notTrue ?_
  | with_reducible refine rr_isN0 ?_
  | with_reducible refine rr_notN0 ?_
  | with_reducible refine rr_isN ?_
  | with_reducible refine rr_notN ?_
  | with_reducible refine rr_IB ?_
  | with_reducible refine rr_eqI ?_
  | with_reducible refine rr_neI ?_
  | with_reducible refine rr_eqB ?_
  | with_reducible refine rr_ixP0 ?_
  | with_reducible refine rr_ixP1 ?_
  | with_reducible refine rr_ix30 ?_
  | with_reducible refine rr_ix31 ?_
  | with_reducible refine rr_ix32 ?_
  | with_reducible refine rr_leK ?_
  | refine rr_eqD ?_
  | refine rr_neD ?_
  | with_reducible refine rr_inT ?_
  | with_reducible refine rr_ninT ?_
  | with_reducible refine rr_inL ?_
  | with_reducible refine rr_ninL ?_
  | with_reducible refine rc_isi kit_ii ?_
  | with_reducible refine rc_isi kit_ib ?_
  | with_reducible refine rc_isi kit_bb ?_
  | with_reducible refine rc_isi kit_tt ?_
  | refine rc_isInt (Tx.isi (by assumption)) ?_
  | refine rc_isBl (Tx.isi (by assumption)) ?_
  | refine rc_isTup (Tx.isi (by assumption)) ?_
  | refine rc_isStr (Tx.isi (by assumption)) ?_
  | with_reducible refine rc_lenL ?_
  | with_reducible refine rc_lenT ?_
  | with_reducible refine rc_lenP ?_
  | with_reducible refine rc_tupL ?_
  | refine rc_lenM rfl ?_
  | refine rc_tupM rfl ?_
  | ((with_reducible apply rr_inM); focus rfl)
  | ((with_reducible apply rr_ninM); focus rfl)
  | with_reducible refine rc_lstTC ?_
  | with_reducible apply wg_setM
  | refine ex_l rfl ?_
  | refine ex_d rfl ?_
  | with_reducible refine rc_int ?_
  | with_reducible refine rc_abs ?_
  | with_reducible refine rc_min2 ?_
  | with_reducible refine rc_all ?_
  | with_reducible refine rc_any ?_
  | with_reducible refine wg_name ?_
  | (apply wg_tup2)
  | (apply wg_tup3))
local macro_rules | `(tactic| walk_at "zqs") => `(tactic| repeat walk_at "zq")
local macro_rules | `(tactic| walk_at "zok1") => `(tactic| first
  | exact trivial
  | exact dy_ok _ _
  | exact cLst_ok _ _
  | exact cDic_ok _ _
  | exact hand_ok _
  | exact handX_ok
  | exact okM_nil
  | exact okE_nil
  | exact okDs_nil
  | refine okM_cons ?_ ?_
  | refine okDs_cons ?_ ?_
  | refine okE_none ?_
  | refine okE_cons ?_ ?_
  | exact mr_ok (Nat.le_of_ble_eq_true rfl)
  | exact Free.l _ _
  | exact Free.k _ _
  | exact Free.ok _ _
  | exact Frg.refl _
  | exact Frg.nil
  | refine Frg.same ?_
  | refine Frg.drop ?_)
local macro_rules | `(tactic| walk_at "zok") => `(tactic| repeat walk_at "zok1")
local macro_rules | `(tactic| walk_at "zcut") => `(tactic| exact Cut.mk (by walk_at "zok") (by walk_at "zok") (by walk_at "zok") rfl)
local macro_rules | `(tactic| walk_at "zb") => `(tactic| first
  | with_reducible refine bt_tt ?_
  | with_reducible refine bt_ff ?_
  | with_reducible refine bt_nt ?_
  | with_reducible refine bt_nf ?_
  | with_reducible refine bt_ft ?_
  | with_reducible refine bt_tf ?_
  | with_reducible refine bt_nt' ?_
  | with_reducible refine bt_nf' ?_
  | (with_reducible refine bt_t ?_ ?_
     focus (first | rfl | assumption))
  | (with_reducible refine bt_f ?_ ?_
     focus (first | rfl | assumption))
  | (with_reducible refine bt_t' ?_ ?_
     focus (first | rfl | assumption))
  | (with_reducible refine bt_f' ?_ ?_
     focus (first | rfl | assumption))
  | (refine ca5 ?_ ?_ ?_ ?_ ?_
     focus (first | rfl | decide)
     focus (first | exact Nat.zero_le _ | exact Nat.le_of_ble_eq_true rfl)
     focus (walk_at "zok"; done)
     focus (walk_at "zok"; done))
  | (refine ca3 ?_ ?_ ?_
     focus (walk_at "zok"; done)
     focus (walk_at "zok"; done)))

local macro_rules | `(tactic| walk_at "zs1") => `(tactic| first
  | walk_at "zq"
  | walk_at "zb")
local macro_rules | `(tactic| walk_at "zs") => `(tactic| repeat walk_at "zs1")
section
variable {P : Program} {w : World} {c : Cc} {mg : Str → Option Value} {base : Heap}
/-- is_integer -/
def sp_is_integer : ASp := fun ds M P => ∃ x : Th, ds = [dy x] ∧ P (dy (x.isInt && !x.isBl)) M
theorem sc_is_integer : FnScope ["thing"] ["thing"] (defScope s_is_integer) := ⟨rfl, rfl, rfl, by decide +kernel, rfl, by decide +kernel, by decide +kernel⟩
theorem ok_is_integer {f : Addr} {fd : FuncData} (F : Fun c.K "is_integer" "is_integer" s_is_integer f fd) (T : Tb mg) (X : Tx c)  :
    FnOk P w c.K mg base CX0 1 f fd ["thing"] (spOf c 1 0 sp_is_integer) := by
  refine F.ok sc_is_integer (fun vs H Q E h => ?_) (fun cdv A outer s H vs Q E hr h => ?_)
  · obtain ⟨as, F, ds, M, P, _, hn, _, rd, _⟩ := h
    rw [rd.length, hn]; rfl
  · have hu1 : (A.deeper (envOfC "is_integer" (defScope s_is_integer) s.heap.objs.size f cdv)).units + 1 < cLine := hu_of hr
    have hu8 : (A.deeper (envOfC "is_integer" (defScope s_is_integer) s.heap.objs.size f cdv)).units + 8 < cLine := by have := hr.un; omega
    have hu16 : (A.deeper (envOfC "is_integer" (defScope s_is_integer) s.heap.objs.size f cdv)).units + 16 < cLine := by have := hr.un; omega
    have hu64 : (A.deeper (envOfC "is_integer" (defScope s_is_integer) s.heap.objs.size f cdv)).units + 64 < cLine := by have := hr.un; omega
    have hu65 : (A.deeper (envOfC "is_integer" (defScope s_is_integer) s.heap.objs.size f cdv)).units + 65 < cLine := by have := hr.un; omega
    refine ⟨_, (pss_one (ps_ret (pe_and (pe_callB (r := rIsi c.K) call_isi (by rfl) T.b_isinstance (by decide +kernel) (pa_cons (pv 0) (pa_cons (pe_bltn (v := .ty "int") rfl T.b_int (by decide +kernel) rfl) pa_nil))) (pe_one (pe_not (pe_callB (r := rIsi c.K) call_isi (by rfl) T.b_isinstance (by decide +kernel) (pa_cons (pv 0) (pa_cons (pe_bltn (v := .ty "bool") rfl T.b_bool (by decide +kernel) rfl) pa_nil)))))))), ?_⟩
    refine body_ok h (by decide) fun ds M R hds hM hS => ?_
    obtain ⟨x, rfl, hP⟩ := hS
    obtain rfl := List.length_eq_zero_iff.mp hM
    show WS c 0 _ [some (dy x)] [] _ _
    walk_at "zs"
    refine ⟨fun q => ?_, fun q => ?_⟩
    · rw [q] at hP
      walk_at "zs"
      exact hP
    · rw [q] at hP
      walk_at "zs"
      exact hP

theorem u_is_integer {M : Mem} {P : Dy → Mem → Prop} {x : Int} (h : P (dy true) M) : sp_is_integer [dy x] M P := ⟨.int x, by rw [th_int], h⟩
local macro_rules | `(tactic| walk_at "zu") => `(tactic| first
  | refine u_is_integer ?_)
local macro_rules | `(tactic| walk_at "zs1") => `(tactic| first
  | walk_at "zq"
  | walk_at "zu"
  | walk_at "zb")
local macro_rules | `(tactic| walk_at "zs") => `(tactic| repeat walk_at "zs1")
theorem u_is_integer_th {M : Mem} {P : Dy → Mem → Prop} {x : Th} (h : P (dy (x.isInt && !x.isBl)) M) : sp_is_integer [dy x] M P := ⟨x, rfl, h⟩
local macro_rules | `(tactic| walk_at "zu") => `(tactic| first
  | refine u_is_integer ?_
  | refine u_is_integer_th ?_)
local macro_rules | `(tactic| walk_at "zs1") => `(tactic| first
  | walk_at "zq"
  | walk_at "zu"
  | walk_at "zb")
local macro_rules | `(tactic| walk_at "zs") => `(tactic| repeat walk_at "zs1")
/-- is_number_below -/
def sp_is_number_below : ASp := fun ds M P => ∃ (n : Int) (x : Th), ds = [dy n, dy x] ∧ P (dy (below n x)) M
theorem sc_is_number_below : FnScope ["end", "thing"] ["end", "thing"] (defScope s_is_number_below) := ⟨rfl, rfl, rfl, by decide +kernel, rfl, by decide +kernel, by decide +kernel⟩
theorem ok_is_number_below {f : Addr} {fd : FuncData} (F : Fun c.K "is_number_below" "is_number_below" s_is_number_below f fd) (T : Tb mg) (X : Tx c) (g_is_integer : Cal P w c.K mg base 1 "is_integer" (spOf c 1 0 sp_is_integer) []) :
    FnOk P w c.K mg base CX0 2 f fd ["end", "thing"] (spOf c 2 0 sp_is_number_below) := by
  refine F.ok sc_is_number_below (fun vs H Q E h => ?_) (fun cdv A outer s H vs Q E hr h => ?_)
  · obtain ⟨as, F, ds, M, P, _, hn, _, rd, _⟩ := h
    rw [rd.length, hn]; rfl
  · have hu1 : (A.deeper (envOfC "is_number_below" (defScope s_is_number_below) s.heap.objs.size f cdv)).units + 1 < cLine := hu_of hr
    have hu8 : (A.deeper (envOfC "is_number_below" (defScope s_is_number_below) s.heap.objs.size f cdv)).units + 8 < cLine := by have := hr.un; omega
    have hu16 : (A.deeper (envOfC "is_number_below" (defScope s_is_number_below) s.heap.objs.size f cdv)).units + 16 < cLine := by have := hr.un; omega
    have hu64 : (A.deeper (envOfC "is_number_below" (defScope s_is_number_below) s.heap.objs.size f cdv)).units + 64 < cLine := by have := hr.un; omega
    have hu65 : (A.deeper (envOfC "is_number_below" (defScope s_is_number_below) s.heap.objs.size f cdv)).units + 65 < cLine := by have := hr.un; omega
    refine ⟨_, (pss_one (ps_ret (pe_and (pe_c g_is_integer hr (by decide) rfl (pa_cons (pv 1) pa_nil)) (pe_one (pe_chain op_le op_lt pe_int (pv 1) (pv 0)))))), ?_⟩
    refine body_ok h (by decide) fun ds M R hds hM hS => ?_
    obtain ⟨n, x, rfl, hP⟩ := hS
    obtain rfl := List.length_eq_zero_iff.mp hM
    show WS c 0 _ [some (dy n), some (dy x)] [] _ _
    cases x with
    | int i =>
      rw [th_int]
      walk_at "zs"
      have hP' : R (dy (decide (0 ≤ i) && decide (i < n))) [] := hP
      refine ⟨fun h => ?_, fun h => ?_⟩
      · walk_at "zs"
        rw [h] at hP'
        exact hP'
      · walk_at "zs"
        rw [h] at hP'
        exact hP'
    | _ =>
      walk_at "zs"
      exact hP

theorem u_is_number_below {M : Mem} {P : Dy → Mem → Prop} {n x : Int} (h : P (dy true) M) (h1 : 0 ≤ x ∧ x < n) : sp_is_number_below [dy n, dy x] M P := ⟨n, .int x, by rw [th_int], by show P (dy (decide (0 ≤ x) && decide (x < n))) M; rw [decide_eq_true h1.1, decide_eq_true h1.2]; exact h⟩
local macro_rules | `(tactic| walk_at "zu") => `(tactic| first
  | refine u_is_integer ?_
  | refine u_is_integer_th ?_
  | refine u_is_number_below ?_ ?_)
local macro_rules | `(tactic| walk_at "zs1") => `(tactic| first
  | walk_at "zq"
  | walk_at "zu"
  | walk_at "zb")
local macro_rules | `(tactic| walk_at "zs") => `(tactic| repeat walk_at "zs1")
theorem u_is_number_below_th {M : Mem} {P : Dy → Mem → Prop} {n : Int} {x : Th} (h : P (dy (below n x)) M) : sp_is_number_below [dy n, dy x] M P := ⟨n, x, rfl, h⟩
local macro_rules | `(tactic| walk_at "zu") => `(tactic| first
  | refine u_is_integer ?_
  | refine u_is_integer_th ?_
  | refine u_is_number_below ?_ ?_
  | refine u_is_number_below_th ?_)
local macro_rules | `(tactic| walk_at "zs1") => `(tactic| first
  | walk_at "zq"
  | walk_at "zu"
  | walk_at "zb")
local macro_rules | `(tactic| walk_at "zs") => `(tactic| repeat walk_at "zs1")
/-- is_bits -/
def sp_is_bits : ASp := fun ds M P => ∃ (n : Int) (x : Th), ds = [dy n, dy x] ∧ P (dy (isBits n x)) M
theorem sc_is_bits : FnScope ["many", "thing", "bit"] ["many", "thing"] (defScope s_is_bits) := ⟨rfl, rfl, rfl, by decide +kernel, rfl, by decide +kernel, by decide +kernel⟩
theorem ok_is_bits {f : Addr} {fd : FuncData} (F : Fun c.K "is_bits" "is_bits" s_is_bits f fd) (T : Tb mg) (X : Tx c) (g_is_number_below : Cal P w c.K mg base 2 "is_number_below" (spOf c 2 0 sp_is_number_below) []) :
    FnOk P w c.K mg base CX0 3 f fd ["many", "thing"] (spOf c 2 0 sp_is_bits) := by
  refine F.ok sc_is_bits (fun vs H Q E h => ?_) (fun cdv A outer s H vs Q E hr h => ?_)
  · obtain ⟨as, F, ds, M, P, _, hn, _, rd, _⟩ := h
    rw [rd.length, hn]; rfl
  · have hu1 : (A.deeper (envOfC "is_bits" (defScope s_is_bits) s.heap.objs.size f cdv)).units + 1 < cLine := hu_of hr
    have hu8 : (A.deeper (envOfC "is_bits" (defScope s_is_bits) s.heap.objs.size f cdv)).units + 8 < cLine := by have := hr.un; omega
    have hu16 : (A.deeper (envOfC "is_bits" (defScope s_is_bits) s.heap.objs.size f cdv)).units + 16 < cLine := by have := hr.un; omega
    have hu64 : (A.deeper (envOfC "is_bits" (defScope s_is_bits) s.heap.objs.size f cdv)).units + 64 < cLine := by have := hr.un; omega
    have hu65 : (A.deeper (envOfC "is_bits" (defScope s_is_bits) s.heap.objs.size f cdv)).units + 65 < cLine := by have := hr.un; omega
    refine ⟨_, (pss_cons (ps_if (PW.pt (pw_or (pt_not (pt_val (pe_callB (r := rIsi c.K) call_isi (by rfl) T.b_isinstance (by decide +kernel) (pa_cons (pv 1) (pa_cons (pe_bltn (v := .ty "tuple") rfl T.b_tuple (by decide +kernel) rfl) pa_nil))))) (pw_or1 (pt_cmpR op_ne (pe_callB (r := Zq.rLen c.K) call_len_seq (by rfl) T.b_len (by decide +kernel) (pa_cons (pv 1) pa_nil)) (pv 0) (nomark _))))) (pss_one (ps_ret pe_bl)) pss_nil)
        (pss_cons (ps_for PassesOwn.never rfl (pi_tup (pv 1)) (pg_name (i := 2) sc_is_bits.nd rfl (Or.inl rfl)) (pss_one (ps_if (pt_not (pt_val (pe_c g_is_number_below hr (by decide) rfl (pa_cons pe_int (pa_cons (pv 2) pa_nil))))) (pss_one (ps_ret pe_bl)) pss_nil)))
        (pss_one (ps_ret pe_bl)))), ?_⟩
    refine body_ok h (by decide) fun ds M R hds hM hS => ?_
    obtain ⟨n, x, rfl, hP⟩ := hS
    obtain rfl := List.length_eq_zero_iff.mp hM
    show WS c 0 _ [some (dy n), some (dy x), none] [] _ _
    cases x with
    | tup l =>
      rw [th_tup]
      walk_at "zs"
      by_cases hn : ((l.length : Nat) : Int) = n
      · have e1 : (!decide (((l.length : Nat) : Int) = n)) = false := by rw [decide_eq_true hn]; rfl
        have hP' : R (dy (l.all (below 2))) [] := by
          have : isBits n (.tup l) = l.all (below 2) := by show (decide ((l.length : Int) = n) && l.all (below 2)) = _; rw [decide_eq_true hn]; rfl
          rw [← this]; exact hP
        walk_at "zs"
        refine ws_for (S := Unit) (β := Th) (ts := [2]) (fun pre _ => pre.all (below 2) = true) (fun _ => [some (dy n), some (dy (Tp.mk l)), none]) (fun _ => []) ?_
        refine wi_tup (α := Th) ?_
        walk_at "zs"
        refine ⟨⟨l⟩, rfl, l, rfl, (), rfl, by walk_at "zcut", fun pre y post s e hJ => ?_, fun s hJ => ?_⟩
        · walk_at "zs"
          cases hb : below 2 y with
          | true =>
            walk_at "zs"
            exact ⟨(), by rw [List.all_append, hJ]; simp [hb], by walk_at "zcut"⟩
          | false =>
            have : l.all (below 2) = false := by rw [e, List.all_append, List.all_cons, hb]; simp
            rw [this] at hP'
            walk_at "zs"
            exact hP'
        · walk_at "zs"
          rw [hJ] at hP'
          exact hP'
      · have e1 : (!decide (((l.length : Nat) : Int) = n)) = true := by rw [decide_eq_false hn]; rfl
        have hP' : R (dy false) [] := by
          have : isBits n (.tup l) = false := by show (decide ((l.length : Int) = n) && l.all (below 2)) = _; rw [decide_eq_false hn]; rfl
          rw [← this]; exact hP
        walk_at "zs"
        exact hP'
    | _ =>
      walk_at "zs"
      exact hP

theorem u_is_bits {M : Mem} {P : Dy → Mem → Prop} {n : Int} {x : Th} (h : P (dy (isBits n x)) M) : sp_is_bits [dy n, dy x] M P := ⟨n, x, rfl, h⟩
local macro_rules | `(tactic| walk_at "zu") => `(tactic| first
  | refine u_is_integer ?_
  | refine u_is_integer_th ?_
  | refine u_is_number_below ?_ ?_
  | refine u_is_number_below_th ?_
  | refine u_is_bits ?_)
local macro_rules | `(tactic| walk_at "zs1") => `(tactic| first
  | walk_at "zq"
  | walk_at "zu"
  | walk_at "zb")
local macro_rules | `(tactic| walk_at "zs") => `(tactic| repeat walk_at "zs1")
end
end K03
end
section
set_option Elab.async false
set_option linter.all false
set_option maxRecDepth 100000
set_option maxHeartbeats 4000000
namespace K03
open PySem PySem.Spec PyProof.Rows L2 Zq K02
open C8 (Cal Mak pe_c pe_mk pe_gc)
local macro_rules | `(tactic| walk_at "zq") => `(tactic| first
  | with_reducible refine ws_seq ?_
  | with_reducible refine ws_asg ?_
  | (with_reducible apply ws_asgG)
  | with_reducible refine ws_next ?_
  | with_reducible refine ws_ret ?_
  | with_reducible refine ws_if ?_
  | with_reducible refine ws_dput (β := Bool) ?_
  | with_reducible refine ws_drop (te := tCall _ _ _ _) ?_
  | with_reducible refine as_dy ?_
  | ((with_reducible apply we_var); focus rfl)
  | with_reducible refine we_int ?_
  | with_reducible refine we_bl ?_
  | with_reducible refine we_non ?_
  | with_reducible refine we_ty ?_
  | with_reducible refine we_str ?_
  | with_reducible refine we_op2 ?_
  | with_reducible refine we_neg ?_
  | with_reducible refine we_andV ?_
  | with_reducible refine we_orV ?_
  | with_reducible refine we_notV ?_
  | with_reducible refine we_chain ?_
  | with_reducible refine we_if ?_
  | with_reducible refine we_cb ?_
  | with_reducible refine tup_pair ?_
  | with_reducible refine tup_three ?_
  | with_reducible refine tup_nil ?_
  | with_reducible refine we_call ?_
  | with_reducible refine we_callD ?_
  | with_reducible refine we_tup ?_
  | refine we_cells (Tx.cl (by assumption)) (Tx.nc (by assumption)) ?_
  | refine we_kinds (Tx.cl (by assumption)) (Tx.nk (by assumption)) ?_
  | with_reducible refine wt_test ?_
  | with_reducible refine wt_B ?_
  | with_reducible refine wt_not ?_
  | with_reducible refine wt_and ?_
  | with_reducible refine wt_or ?_
  | with_reducible refine wt_yes ?_
  | with_reducible refine wa_cons ?_
  | with_reducible refine wa_nil ?_
  | with_reducible refine rr_II ?_
  | with_reducible refine rr_isTrue ?_
  | with_reducible refine rr_notTrue ?_
  | with_reducible refine rr_isN0 ?_
  | with_reducible refine rr_notN0 ?_
  | with_reducible refine rr_isN ?_
  | with_reducible refine rr_notN ?_
  | with_reducible refine rr_IB ?_
  | with_reducible refine rr_eqI ?_
  | with_reducible refine rr_neI ?_
  | with_reducible refine rr_eqB ?_
  | with_reducible refine rr_ixP0 ?_
  | with_reducible refine rr_ixP1 ?_
  | with_reducible refine rr_ix30 ?_
  | with_reducible refine rr_ix31 ?_
  | with_reducible refine rr_ix32 ?_
  | with_reducible refine rr_leK ?_
  | refine rr_eqD ?_
  | refine rr_neD ?_
  | with_reducible refine rr_inT ?_
  | with_reducible refine rr_ninT ?_
  | with_reducible refine rr_inL ?_
  | with_reducible refine rr_ninL ?_
  | with_reducible refine rc_isi kit_ii ?_
  | with_reducible refine rc_isi kit_ib ?_
  | with_reducible refine rc_isi kit_bb ?_
  | with_reducible refine rc_isi kit_tt ?_
  | refine rc_isInt (Tx.isi (by assumption)) ?_
  | refine rc_isBl (Tx.isi (by assumption)) ?_
  | refine rc_isTup (Tx.isi (by assumption)) ?_
  | refine rc_isStr (Tx.isi (by assumption)) ?_
  | with_reducible refine rc_lenL ?_
  | with_reducible refine rc_lenT ?_
  | with_reducible refine rc_lenP ?_
  | with_reducible refine rc_tupL ?_
  | refine rc_lenM rfl ?_
  | refine rc_tupM rfl ?_
  | ((with_reducible apply rr_inM); focus rfl)
  | ((with_reducible apply rr_ninM); focus rfl)
  | with_reducible refine rc_lstTC ?_
  | with_reducible apply wg_setM
  | refine ex_l rfl ?_
  | refine ex_d rfl ?_
  | with_reducible refine rc_int ?_
  | with_reducible refine rc_abs ?_
  | with_reducible refine rc_min2 ?_
  | with_reducible refine rc_all ?_
  | with_reducible refine rc_any ?_
  | with_reducible refine wg_name ?_
  | (apply wg_tup2)
  | (apply wg_tup3))
local macro_rules | `(tactic| walk_at "zqs") => `(tactic| repeat walk_at "zq")
local macro_rules | `(tactic| walk_at "zok1") => `(tactic| first
  | exact trivial
  | exact dy_ok _ _
  | exact cLst_ok _ _
  | exact cDic_ok _ _
  | exact hand_ok _
  | exact handX_ok
  | exact okM_nil
  | exact okE_nil
  | exact okDs_nil
  | refine okM_cons ?_ ?_
  | refine okDs_cons ?_ ?_
  | refine okE_none ?_
  | refine okE_cons ?_ ?_
  | exact mr_ok (Nat.le_of_ble_eq_true rfl)
  | exact Free.l _ _
  | exact Free.k _ _
  | exact Free.ok _ _
  | exact Frg.refl _
  | exact Frg.nil
  | refine Frg.same ?_
  | refine Frg.drop ?_)
local macro_rules | `(tactic| walk_at "zok") => `(tactic| repeat walk_at "zok1")
local macro_rules | `(tactic| walk_at "zcut") => `(tactic| exact Cut.mk (by walk_at "zok") (by walk_at "zok") (by walk_at "zok") rfl)
local macro_rules | `(tactic| walk_at "zb") => `(tactic| first
  | with_reducible refine bt_tt ?_
  | with_reducible refine bt_ff ?_
  | with_reducible refine bt_nt ?_
  | with_reducible refine bt_nf ?_
  | with_reducible refine bt_ft ?_
  | with_reducible refine bt_tf ?_
  | with_reducible refine bt_nt' ?_
  | with_reducible refine bt_nf' ?_
  | (with_reducible refine bt_t ?_ ?_
     focus (first | rfl | assumption))
  | (with_reducible refine bt_f ?_ ?_
     focus (first | rfl | assumption))
  | (with_reducible refine bt_t' ?_ ?_
     focus (first | rfl | assumption))
  | (with_reducible refine bt_f' ?_ ?_
     focus (first | rfl | assumption))
  | (refine ca5 ?_ ?_ ?_ ?_ ?_
     focus (first | rfl | decide)
     focus (first | exact Nat.zero_le _ | exact Nat.le_of_ble_eq_true rfl)
     focus (walk_at "zok"; done)
     focus (walk_at "zok"; done))
  | (refine ca3 ?_ ?_ ?_
     focus (walk_at "zok"; done)
     focus (walk_at "zok"; done)))

local macro_rules | `(tactic| walk_at "zu") => `(tactic| first
  | refine u_is_integer ?_
  | refine u_is_integer_th ?_
  | refine u_is_number_below ?_ ?_
  | refine u_is_number_below_th ?_
  | refine u_is_bits ?_)
local macro_rules | `(tactic| walk_at "zs1") => `(tactic| first
  | walk_at "zq"
  | walk_at "zu"
  | walk_at "zb")
local macro_rules | `(tactic| walk_at "zs") => `(tactic| repeat walk_at "zs1")
section
variable {P : Program} {w : World} {c : Cc} {mg : Str → Option Value} {base : Heap}
/-- is_lot -/
def sp_is_lot : ASp := fun ds M P => ∃ xs : Tp Int, ds = [dy xs] ∧ xs.l.Pairwise (· < ·) ∧ P (dy true) M
theorem sc_is_lot : FnScope ["thing", "at", "number"] ["thing"] (defScope s_is_lot) := ⟨rfl, rfl, rfl, by decide +kernel, rfl, by decide +kernel, by decide +kernel⟩
theorem ok_is_lot {f : Addr} {fd : FuncData} (F : Fun c.K "is_lot" "is_lot" s_is_lot f fd) (T : Tb mg) (X : Tx c) (g_is_integer : Cal P w c.K mg base 1 "is_integer" (spOf c 1 0 sp_is_integer) []) :
    FnOk P w c.K mg base CX0 2 f fd ["thing"] (spOf c 1 0 sp_is_lot) := by
  refine F.ok sc_is_lot (fun vs H Q E h => ?_) (fun cdv A outer s H vs Q E hr h => ?_)
  · obtain ⟨as, F, ds, M, P, _, hn, _, rd, _⟩ := h
    rw [rd.length, hn]; rfl
  · have hu1 : (A.deeper (envOfC "is_lot" (defScope s_is_lot) s.heap.objs.size f cdv)).units + 1 < cLine := hu_of hr
    have hu8 : (A.deeper (envOfC "is_lot" (defScope s_is_lot) s.heap.objs.size f cdv)).units + 8 < cLine := by have := hr.un; omega
    have hu16 : (A.deeper (envOfC "is_lot" (defScope s_is_lot) s.heap.objs.size f cdv)).units + 16 < cLine := by have := hr.un; omega
    have hu64 : (A.deeper (envOfC "is_lot" (defScope s_is_lot) s.heap.objs.size f cdv)).units + 64 < cLine := by have := hr.un; omega
    have hu65 : (A.deeper (envOfC "is_lot" (defScope s_is_lot) s.heap.objs.size f cdv)).units + 65 < cLine := by have := hr.un; omega
    refine ⟨_, (pss_cons (ps_if (pt_not (pt_val (pe_callB (r := rIsi c.K) call_isi (by rfl) T.b_isinstance (by decide +kernel) (pa_cons (pv 0) (pa_cons (pe_bltn (v := .ty "tuple") rfl T.b_tuple (by decide +kernel) rfl) pa_nil))))) (pss_one (ps_ret pe_bl)) pss_nil)
        (pss_cons (ps_for PassesOwn.never rfl (Zr.pi_enumT rfl T.b_enumerate (pa_cons (pv 0) pa_nil)) (pg_tup rfl (pgs_cons (pg_name (i := 1) sc_is_lot.nd rfl (Or.inl rfl)) (pgs_cons (pg_name (i := 2) sc_is_lot.nd rfl (Or.inl rfl)) pgs_nil))) (pss_cons (ps_if (pt_not (pt_val (pe_c g_is_integer hr (by decide) rfl (pa_cons (pv 2) pa_nil)))) (pss_one (ps_ret pe_bl)) pss_nil)
        (pss_one (ps_if (PW.pt (pw_and (pt_cmpR op_gt (pv 1) pe_int (nomark _)) (pw_and1 (pt_cmpR op_le (pv 2) (pe_ix (r := rIxT c.K) ix_tup (pv 0) (pe_op op_sub (pv 1) pe_int) (fun _ _ => rfl)) (nomark _))))) (pss_one (ps_ret pe_bl)) pss_nil))))
        (pss_one (ps_ret pe_bl)))), ?_⟩
    refine body_ok h (by decide) fun ds M R hds hM hS => ?_
    obtain ⟨xs, rfl, ha, hP⟩ := hS
    obtain rfl := List.length_eq_zero_iff.mp hM
    show WS c 0 _ [some (dy xs), none, none] [] _ _
    walk_at "zs"
    refine ws_fold (S := Unit) (β := Int × Int) ([1] ++ [2]) (fun _ _ => ()) () (fun _ => [some (dy xs), none, none]) (fun _ => []) (fun _ _ => True) ?_
    refine wi_enumT (α := Int) ?_
    walk_at "zs"
    refine ⟨xs, rfl, nums xs.l, rfl, trivial, by walk_at "zcut", fun pre y post s e hs hJ => ?_, fun s hs hJ => ?_⟩
    · have hy := nums_mem (show (y.1, y.2) ∈ nums xs.l by rw [e]; simp)
      walk_at "zs"
      refine ⟨fun h => ?_, fun _ => ?_⟩
      · walk_at "zs"
        have h0 : 0 < y.1 := of_decide_eq_true h
        obtain ⟨z, hz, hlt⟩ := asc_ahead ha h0 hy.2.2
        refine rr_ixT (by omega) hz ?_
        walk_at "zs"
        rw [decide_eq_false (show ¬ y.2 ≤ z by omega)]
        walk_at "zs"
        exact ⟨trivial, by walk_at "zcut"⟩
      · walk_at "zs"
        exact ⟨trivial, by walk_at "zcut"⟩
    · walk_at "zs"
      exact hP

theorem u_is_lot {M : Mem} {P : Dy → Mem → Prop} {xs : Tp Int} (h : P (dy true) M) (h1 : xs.l.Pairwise (· < ·)) : sp_is_lot [dy xs] M P := ⟨xs, rfl, h1, h⟩
local macro_rules | `(tactic| walk_at "zu") => `(tactic| first
  | refine u_is_integer ?_
  | refine u_is_integer_th ?_
  | refine u_is_number_below ?_ ?_
  | refine u_is_number_below_th ?_
  | refine u_is_bits ?_
  | refine u_is_lot ?_ ?_)
local macro_rules | `(tactic| walk_at "zs1") => `(tactic| first
  | walk_at "zq"
  | walk_at "zu"
  | walk_at "zb")
local macro_rules | `(tactic| walk_at "zs") => `(tactic| repeat walk_at "zs1")
/-- is_lot_of_cells -/
def sp_is_lot_of_cells : ASp := fun ds M P => ∃ (n : Int) (xs : Tp Int), ds = [dy n, dy xs] ∧ xs.l.Pairwise (· < ·) ∧ (∀ r, r ∈ xs.l → 0 ≤ r ∧ r < n) ∧ P (dy true) M
theorem sc_is_lot_of_cells : FnScope ["cells", "thing"] ["cells", "thing"] (defScope s_is_lot_of_cells) := ⟨rfl, rfl, rfl, by decide +kernel, rfl, by decide +kernel, by decide +kernel⟩
theorem ok_is_lot_of_cells {f : Addr} {fd : FuncData} (F : Fun c.K "is_lot_of_cells" "is_lot_of_cells" s_is_lot_of_cells f fd) (T : Tb mg) (X : Tx c) (g_is_lot : Cal P w c.K mg base 2 "is_lot" (spOf c 1 0 sp_is_lot) []) :
    FnOk P w c.K mg base CX0 3 f fd ["cells", "thing"] (spOf c 2 0 sp_is_lot_of_cells) := by
  refine F.ok sc_is_lot_of_cells (fun vs H Q E h => ?_) (fun cdv A outer s H vs Q E hr h => ?_)
  · obtain ⟨as, F, ds, M, P, _, hn, _, rd, _⟩ := h
    rw [rd.length, hn]; rfl
  · have hu1 : (A.deeper (envOfC "is_lot_of_cells" (defScope s_is_lot_of_cells) s.heap.objs.size f cdv)).units + 1 < cLine := hu_of hr
    have hu8 : (A.deeper (envOfC "is_lot_of_cells" (defScope s_is_lot_of_cells) s.heap.objs.size f cdv)).units + 8 < cLine := by have := hr.un; omega
    have hu16 : (A.deeper (envOfC "is_lot_of_cells" (defScope s_is_lot_of_cells) s.heap.objs.size f cdv)).units + 16 < cLine := by have := hr.un; omega
    have hu64 : (A.deeper (envOfC "is_lot_of_cells" (defScope s_is_lot_of_cells) s.heap.objs.size f cdv)).units + 64 < cLine := by have := hr.un; omega
    have hu65 : (A.deeper (envOfC "is_lot_of_cells" (defScope s_is_lot_of_cells) s.heap.objs.size f cdv)).units + 65 < cLine := by have := hr.un; omega
    refine ⟨_, (pss_cons (ps_if (pt_not (pt_val (pe_c g_is_lot hr (by decide) rfl (pa_cons (pv 1) pa_nil)))) (pss_one (ps_ret pe_bl)) pss_nil)
        (pss_one (ps_ret (pe_or (pe_cmpR op_eq (pe_callB (r := Zq.rLen c.K) call_len_seq (by rfl) T.b_len (by decide +kernel) (pa_cons (pv 1) pa_nil)) pe_int (nomark _)) (pe_one (pe_and (pe_cmpR op_ge (pe_ix (r := rIxT c.K) ix_tup (pv 1) pe_int (fun _ _ => rfl)) pe_int (nomark _)) (pe_one (pe_cmpR op_lt (pe_ix (r := rIxT c.K) ix_tup (pv 1) (pe_un un_neg pe_int) (fun _ _ => rfl)) (pv 0) (nomark _))))))))), ?_⟩
    refine body_ok h (by decide) fun ds M R hds hM hS => ?_
    obtain ⟨n, xs, rfl, ha, hb, hP⟩ := hS
    obtain rfl := List.length_eq_zero_iff.mp hM
    show WS c 0 _ [some (dy n), some (dy xs)] [] _ _
    walk_at "zs"
    rotate_left
    · exact ha
    by_cases h0 : xs.l.length = 0
    · rw [decide_eq_true (show ((xs.l.length : Nat) : Int) = 0 by omega)]
      walk_at "zs"
      exact hP
    · rw [decide_eq_false (show ¬ ((xs.l.length : Nat) : Int) = 0 by omega)]
      walk_at "zs"
      have hl0 : 0 < xs.l.length := by omega
      have b0 := hb _ (List.getElem_mem hl0)
      have b1 := hb _ (List.getElem_mem (show xs.l.length - 1 < xs.l.length by omega))
      refine rr_ixT (by decide) (List.getElem?_eq_getElem (show (0 : Int).toNat < xs.l.length from hl0)) ?_
      walk_at "zs"
      rw [decide_eq_true (show (0 : Int) ≤ xs.l[(0 : Int).toNat] from b0.1)]
      walk_at "zs"
      refine rr_ixTm1 (List.getElem?_eq_getElem (by omega)) ?_
      walk_at "zs"
      rw [decide_eq_true b1.2]
      exact hP

theorem u_is_lot_of_cells {M : Mem} {P : Dy → Mem → Prop} {n : Int} {xs : Tp Int} (h : P (dy true) M) (h1 : xs.l.Pairwise (· < ·)) (h2 : ∀ r, r ∈ xs.l → 0 ≤ r ∧ r < n) : sp_is_lot_of_cells [dy n, dy xs] M P := ⟨n, xs, rfl, h1, h2, h⟩
local macro_rules | `(tactic| walk_at "zu") => `(tactic| first
  | refine u_is_integer ?_
  | refine u_is_integer_th ?_
  | refine u_is_number_below ?_ ?_
  | refine u_is_number_below_th ?_
  | refine u_is_bits ?_
  | refine u_is_lot ?_ ?_
  | refine u_is_lot_of_cells ?_ ?_ ?_)
local macro_rules | `(tactic| walk_at "zs1") => `(tactic| first
  | walk_at "zq"
  | walk_at "zu"
  | walk_at "zb")
local macro_rules | `(tactic| walk_at "zs") => `(tactic| repeat walk_at "zs1")
/-- is_kind -/
def sp_is_kind : ASp := fun ds M P => ∃ (n : Int) (k : Zq.Kind), ds = [dy n, dy k] ∧ KOk n k ∧ P (dy true) M
theorem sc_is_kind : FnScope ["cells", "thing", "cell", "reads"] ["cells", "thing"] (defScope s_is_kind) := ⟨rfl, rfl, rfl, by decide +kernel, rfl, by decide +kernel, by decide +kernel⟩
theorem ok_is_kind {f : Addr} {fd : FuncData} (F : Fun c.K "is_kind" "is_kind" s_is_kind f fd) (T : Tb mg) (X : Tx c) (g_is_lot_of_cells : Cal P w c.K mg base 3 "is_lot_of_cells" (spOf c 2 0 sp_is_lot_of_cells) []) (g_is_number_below : Cal P w c.K mg base 2 "is_number_below" (spOf c 2 0 sp_is_number_below) []) :
    FnOk P w c.K mg base CX0 4 f fd ["cells", "thing"] (spOf c 2 0 sp_is_kind) := by
  refine F.ok sc_is_kind (fun vs H Q E h => ?_) (fun cdv A outer s H vs Q E hr h => ?_)
  · obtain ⟨as, F, ds, M, P, _, hn, _, rd, _⟩ := h
    rw [rd.length, hn]; rfl
  · have hu1 : (A.deeper (envOfC "is_kind" (defScope s_is_kind) s.heap.objs.size f cdv)).units + 1 < cLine := hu_of hr
    have hu8 : (A.deeper (envOfC "is_kind" (defScope s_is_kind) s.heap.objs.size f cdv)).units + 8 < cLine := by have := hr.un; omega
    have hu16 : (A.deeper (envOfC "is_kind" (defScope s_is_kind) s.heap.objs.size f cdv)).units + 16 < cLine := by have := hr.un; omega
    have hu64 : (A.deeper (envOfC "is_kind" (defScope s_is_kind) s.heap.objs.size f cdv)).units + 64 < cLine := by have := hr.un; omega
    have hu65 : (A.deeper (envOfC "is_kind" (defScope s_is_kind) s.heap.objs.size f cdv)).units + 65 < cLine := by have := hr.un; omega
    refine ⟨_, (pss_cons (ps_if (PW.pt (pw_or (pt_not (pt_val (pe_callB (r := rIsi c.K) call_isi (by rfl) T.b_isinstance (by decide +kernel) (pa_cons (pv 1) (pa_cons (pe_bltn (v := .ty "tuple") rfl T.b_tuple (by decide +kernel) rfl) pa_nil))))) (pw_or1 (pt_cmpR op_ne (pe_callB (r := Zq.rLen c.K) call_len_seq (by rfl) T.b_len (by decide +kernel) (pa_cons (pv 1) pa_nil)) pe_int (nomark _))))) (pss_one (ps_ret pe_bl)) pss_nil)
        (pss_cons (ps_asg (pv 1) (pg_tup rfl (pgs_cons (pg_name (i := 2) sc_is_kind.nd rfl (Or.inl rfl)) (pgs_cons (pg_name (i := 3) sc_is_kind.nd rfl (Or.inl rfl)) pgs_nil))))
        (pss_cons (ps_if (PW.pt (pw_or (pt_not (pt_val (pe_c g_is_number_below hr (by decide) rfl (pa_cons (pv 0) (pa_cons (pv 2) pa_nil))))) (pw_or1 (pt_not (pt_val (pe_c g_is_lot_of_cells hr (by decide) rfl (pa_cons (pv 0) (pa_cons (pv 3) pa_nil)))))))) (pss_one (ps_ret pe_bl)) pss_nil)
        (pss_one (ps_ret (pe_cmpR op_le (pe_callB (r := Zq.rLen c.K) call_len_seq (by rfl) T.b_len (by decide +kernel) (pa_cons (pv 3) pa_nil)) (pe_gc (v := .int 3) rfl T.c_MOST_READS) (nomark _))))))), ?_⟩
    refine body_ok h (by decide) fun ds M R hds hM hS => ?_
    obtain ⟨n, k, rfl, hk, hP⟩ := hS
    obtain rfl := List.length_eq_zero_iff.mp hM
    show WS c 0 _ [some (dy n), some (dy k), none, none] [] _ _
    walk_at "zs"
    · have e : decide (((k.2.l.length : Nat) : Int) ≤ 3) = true := decide_eq_true (by have := hk.len; omega)
      rw [e]; exact hP
    · exact hk.asc
    · exact hk.r0
    · exact ⟨hk.c0, hk.c1⟩

theorem u_is_kind {M : Mem} {P : Dy → Mem → Prop} {n : Int} {k : Zq.Kind} (h : P (dy true) M) (h1 : KOk n k) : sp_is_kind [dy n, dy k] M P := ⟨n, k, rfl, h1, h⟩
local macro_rules | `(tactic| walk_at "zu") => `(tactic| first
  | refine u_is_integer ?_
  | refine u_is_integer_th ?_
  | refine u_is_number_below ?_ ?_
  | refine u_is_number_below_th ?_
  | refine u_is_bits ?_
  | refine u_is_lot ?_ ?_
  | refine u_is_lot_of_cells ?_ ?_ ?_
  | refine u_is_kind ?_ ?_)
local macro_rules | `(tactic| walk_at "zs1") => `(tactic| first
  | walk_at "zq"
  | walk_at "zu"
  | walk_at "zb")
local macro_rules | `(tactic| walk_at "zs") => `(tactic| repeat walk_at "zs1")
end
end K03
end
section
set_option Elab.async false
set_option linter.all false
set_option maxRecDepth 100000
set_option maxHeartbeats 4000000
namespace K03
open PySem PySem.Spec PyProof.Rows L2 Zq K02
open C8 (Cal Mak pe_c pe_mk pe_gc)
local macro_rules | `(tactic| walk_at "zq") => `(tactic| first
  | with_reducible refine ws_seq ?_
  | with_reducible refine ws_asg ?_
  | (with_reducible apply ws_asgG)
  | with_reducible refine ws_next ?_
  | with_reducible refine ws_ret ?_
  | with_reducible refine ws_if ?_
  | with_reducible refine ws_dput (β := Bool) ?_
  | with_reducible refine ws_drop (te := tCall _ _ _ _) ?_
  | with_reducible refine as_dy ?_
  | ((with_reducible apply we_var); focus rfl)
  | with_reducible refine we_int ?_
  | with_reducible refine we_bl ?_
  | with_reducible refine we_non ?_
  | with_reducible refine we_ty ?_
  | with_reducible refine we_str ?_
  | with_reducible refine we_op2 ?_
  | with_reducible refine we_neg ?_
  | with_reducible refine we_andV ?_
  | with_reducible refine we_orV ?_
  | with_reducible refine we_notV ?_
  | with_reducible refine we_chain ?_
  | with_reducible refine we_if ?_
  | with_reducible refine we_cb ?_
  | with_reducible refine tup_pair ?_
  | with_reducible refine tup_three ?_
  | with_reducible refine tup_nil ?_
  | with_reducible refine we_call ?_
  | with_reducible refine we_callD ?_
  | with_reducible refine we_tup ?_
  | refine we_cells (Tx.cl (by assumption)) (Tx.nc (by assumption)) ?_
  | refine we_kinds (Tx.cl (by assumption)) (Tx.nk (by assumption)) ?_
  | with_reducible refine wt_test ?_
  | with_reducible refine wt_B ?_
  | with_reducible refine wt_not ?_
  | with_reducible refine wt_and ?_
  | with_reducible refine wt_or ?_
  | with_reducible refine wt_yes ?_
  | with_reducible refine wa_cons ?_
  | with_reducible refine wa_nil ?_
  | with_reducible refine rr_II ?_
  | with_reducible refine rr_isTrue ?_
  | with_reducible refine rr_notTrue ?_
  | with_reducible refine rr_isN0 ?_
  | with_reducible refine rr_notN0 ?_
  | with_reducible refine rr_isN ?_
  | with_reducible refine rr_notN ?_
  | with_reducible refine rr_IB ?_
  | with_reducible refine rr_eqI ?_
  | with_reducible refine rr_neI ?_
  | with_reducible refine rr_eqB ?_
  | with_reducible refine rr_ixP0 ?_
  | with_reducible refine rr_ixP1 ?_
  | with_reducible refine rr_ix30 ?_
  | with_reducible refine rr_ix31 ?_
  | with_reducible refine rr_ix32 ?_
  | with_reducible refine rr_leK ?_
  | refine rr_eqD ?_
  | refine rr_neD ?_
  | with_reducible refine rr_inT ?_
  | with_reducible refine rr_ninT ?_
  | with_reducible refine rr_inL ?_
  | with_reducible refine rr_ninL ?_
  | with_reducible refine rc_isi kit_ii ?_
  | with_reducible refine rc_isi kit_ib ?_
  | with_reducible refine rc_isi kit_bb ?_
  | with_reducible refine rc_isi kit_tt ?_
  | refine rc_isInt (Tx.isi (by assumption)) ?_
  | refine rc_isBl (Tx.isi (by assumption)) ?_
  | refine rc_isTup (Tx.isi (by assumption)) ?_
  | refine rc_isStr (Tx.isi (by assumption)) ?_
  | with_reducible refine rc_lenL ?_
  | with_reducible refine rc_lenT ?_
  | with_reducible refine rc_lenP ?_
  | with_reducible refine rc_tupL ?_
  | refine rc_lenM rfl ?_
  | refine rc_tupM rfl ?_
  | ((with_reducible apply rr_inM); focus rfl)
  | ((with_reducible apply rr_ninM); focus rfl)
  | with_reducible refine rc_lstTC ?_
  | with_reducible apply wg_setM
  | refine ex_l rfl ?_
  | refine ex_d rfl ?_
  | with_reducible refine rc_int ?_
  | with_reducible refine rc_abs ?_
  | with_reducible refine rc_min2 ?_
  | with_reducible refine rc_all ?_
  | with_reducible refine rc_any ?_
  | with_reducible refine wg_name ?_
  | (apply wg_tup2)
  | (apply wg_tup3))
local macro_rules | `(tactic| walk_at "zqs") => `(tactic| repeat walk_at "zq")
local macro_rules | `(tactic| walk_at "zok1") => `(tactic| first
  | exact trivial
  | exact dy_ok _ _
  | exact cLst_ok _ _
  | exact cDic_ok _ _
  | exact hand_ok _
  | exact handX_ok
  | exact okM_nil
  | exact okE_nil
  | exact okDs_nil
  | refine okM_cons ?_ ?_
  | refine okDs_cons ?_ ?_
  | refine okE_none ?_
  | refine okE_cons ?_ ?_
  | exact mr_ok (Nat.le_of_ble_eq_true rfl)
  | exact Free.l _ _
  | exact Free.k _ _
  | exact Free.ok _ _
  | exact Frg.refl _
  | exact Frg.nil
  | refine Frg.same ?_
  | refine Frg.drop ?_)
local macro_rules | `(tactic| walk_at "zok") => `(tactic| repeat walk_at "zok1")
local macro_rules | `(tactic| walk_at "zcut") => `(tactic| exact Cut.mk (by walk_at "zok") (by walk_at "zok") (by walk_at "zok") rfl)
local macro_rules | `(tactic| walk_at "zb") => `(tactic| first
  | with_reducible refine bt_tt ?_
  | with_reducible refine bt_ff ?_
  | with_reducible refine bt_nt ?_
  | with_reducible refine bt_nf ?_
  | with_reducible refine bt_ft ?_
  | with_reducible refine bt_tf ?_
  | with_reducible refine bt_nt' ?_
  | with_reducible refine bt_nf' ?_
  | (with_reducible refine bt_t ?_ ?_
     focus (first | rfl | assumption))
  | (with_reducible refine bt_f ?_ ?_
     focus (first | rfl | assumption))
  | (with_reducible refine bt_t' ?_ ?_
     focus (first | rfl | assumption))
  | (with_reducible refine bt_f' ?_ ?_
     focus (first | rfl | assumption))
  | (refine ca5 ?_ ?_ ?_ ?_ ?_
     focus (first | rfl | decide)
     focus (first | exact Nat.zero_le _ | exact Nat.le_of_ble_eq_true rfl)
     focus (walk_at "zok"; done)
     focus (walk_at "zok"; done))
  | (refine ca3 ?_ ?_ ?_
     focus (walk_at "zok"; done)
     focus (walk_at "zok"; done)))

local macro_rules | `(tactic| walk_at "zu") => `(tactic| first
  | refine u_is_integer ?_
  | refine u_is_integer_th ?_
  | refine u_is_number_below ?_ ?_
  | refine u_is_number_below_th ?_
  | refine u_is_bits ?_
  | refine u_is_lot ?_ ?_
  | refine u_is_lot_of_cells ?_ ?_ ?_
  | refine u_is_kind ?_ ?_)
local macro_rules | `(tactic| walk_at "zs1") => `(tactic| first
  | walk_at "zq"
  | walk_at "zu"
  | walk_at "zb")
local macro_rules | `(tactic| walk_at "zs") => `(tactic| repeat walk_at "zs1")
section
variable {P : Program} {w : World} {c : Cc} {mg : Str → Option Value} {base : Heap}
/-- is_journal -/
def sp_is_journal : ASp := fun ds M P => ∃ (t : Tab) (js : List Int), ds = [dy t, dy (Tp.mk js)] ∧ JOk t.kinds.l js ∧ P (dy true) M
theorem sc_is_journal : FnScope ["table", "thing", "kind"] ["table", "thing"] (defScope s_is_journal) := ⟨rfl, rfl, rfl, by decide +kernel, rfl, by decide +kernel, by decide +kernel⟩
theorem ok_is_journal {f : Addr} {fd : FuncData} (F : Fun c.K "is_journal" "is_journal" s_is_journal f fd) (T : Tb mg) (X : Tx c) (g_is_number_below : Cal P w c.K mg base 2 "is_number_below" (spOf c 2 0 sp_is_number_below) []) :
    FnOk P w c.K mg base CX0 3 f fd ["table", "thing"] (spOf c 2 0 sp_is_journal) := by
  refine F.ok sc_is_journal (fun vs H Q E h => ?_) (fun cdv A outer s H vs Q E hr h => ?_)
  · obtain ⟨as, F, ds, M, P, _, hn, _, rd, _⟩ := h
    rw [rd.length, hn]; rfl
  · have hu1 : (A.deeper (envOfC "is_journal" (defScope s_is_journal) s.heap.objs.size f cdv)).units + 1 < cLine := hu_of hr
    have hu8 : (A.deeper (envOfC "is_journal" (defScope s_is_journal) s.heap.objs.size f cdv)).units + 8 < cLine := by have := hr.un; omega
    have hu16 : (A.deeper (envOfC "is_journal" (defScope s_is_journal) s.heap.objs.size f cdv)).units + 16 < cLine := by have := hr.un; omega
    have hu64 : (A.deeper (envOfC "is_journal" (defScope s_is_journal) s.heap.objs.size f cdv)).units + 64 < cLine := by have := hr.un; omega
    have hu65 : (A.deeper (envOfC "is_journal" (defScope s_is_journal) s.heap.objs.size f cdv)).units + 65 < cLine := by have := hr.un; omega
    refine ⟨_, (pss_cons (ps_if (PW.pt (pw_or (pt_not (pt_val (pe_callB (r := rIsi c.K) call_isi (by rfl) T.b_isinstance (by decide +kernel) (pa_cons (pv 1) (pa_cons (pe_bltn (v := .ty "tuple") rfl T.b_tuple (by decide +kernel) rfl) pa_nil))))) (pw_or1 (pt_cmpR op_gt (pe_callB (r := Zq.rLen c.K) call_len_seq (by rfl) T.b_len (by decide +kernel) (pa_cons (pv 1) pa_nil)) (pe_gc (v := .int 400) rfl T.c_MOST_DEEDS) (nomark _))))) (pss_one (ps_ret pe_bl)) pss_nil)
        (pss_cons (ps_for PassesOwn.never rfl (pi_tup (pv 1)) (pg_name (i := 2) sc_is_journal.nd rfl (Or.inl rfl)) (pss_one (ps_if (pt_not (pt_val (pe_c g_is_number_below hr (by decide) rfl (pa_cons (pe_callB (r := Zq.rLen c.K) call_len_seq (by rfl) T.b_len (by decide +kernel) (pa_cons (pe_fld (pv 0) rfl) pa_nil)) (pa_cons (pv 2) pa_nil))))) (pss_one (ps_ret pe_bl)) pss_nil)))
        (pss_one (ps_ret pe_bl)))), ?_⟩
    refine body_ok h (by decide) fun ds M R hds hM hS => ?_
    obtain ⟨t, js, rfl, hj, hP⟩ := hS
    obtain rfl := List.length_eq_zero_iff.mp hM
    show WS c 0 _ [some (dy t), some (dy (Tp.mk js)), none] [] _ _
    walk_at "zs"
    have e : decide ((400 : Int) < ((js.length : Nat) : Int)) = false := decide_eq_false (by have := hj.len; omega)
    rw [e]
    walk_at "zs"
    refine ws_fold (S := Unit) (β := Int) [2] (fun _ _ => ()) () (fun _ => [some (dy t), some (dy (Tp.mk js)), none]) (fun _ => []) (fun _ _ => True) ?_
    refine wi_tup (α := Int) ?_
    walk_at "zs"
    refine ⟨⟨js⟩, rfl, js, rfl, trivial, by walk_at "zcut", fun pre y post s e hs hJ => ?_, fun s hs hJ => ?_⟩
    · walk_at "zs"
      · exact ⟨trivial, by walk_at "zcut"⟩
      · exact hj.at_ y (by rw [e]; simp)
    · walk_at "zs"
      exact hP

theorem u_is_journal {M : Mem} {P : Dy → Mem → Prop} {t : Tab} {js : List Int} (h : P (dy true) M) (h1 : JOk t.kinds.l js) : sp_is_journal [dy t, dy (Tp.mk js)] M P := ⟨t, js, rfl, h1, h⟩
local macro_rules | `(tactic| walk_at "zu") => `(tactic| first
  | refine u_is_integer ?_
  | refine u_is_integer_th ?_
  | refine u_is_number_below ?_ ?_
  | refine u_is_number_below_th ?_
  | refine u_is_bits ?_
  | refine u_is_lot ?_ ?_
  | refine u_is_lot_of_cells ?_ ?_ ?_
  | refine u_is_kind ?_ ?_
  | refine u_is_journal ?_ ?_)
local macro_rules | `(tactic| walk_at "zs1") => `(tactic| first
  | walk_at "zq"
  | walk_at "zu"
  | walk_at "zb")
local macro_rules | `(tactic| walk_at "zs") => `(tactic| repeat walk_at "zs1")
/-- check_journal -/
def sp_check_journal : ASp := fun ds M P => ∃ (t : Tab) (js : List Int), ds = [dy t, dy (Tp.mk js)] ∧ JOk t.kinds.l js ∧ P (dy ()) M
theorem sc_check_journal : FnScope ["table", "journal"] ["table", "journal"] (defScope s_check_journal) := ⟨rfl, rfl, rfl, by decide +kernel, rfl, by decide +kernel, by decide +kernel⟩
theorem ok_check_journal {f : Addr} {fd : FuncData} (F : Fun c.K "check_journal" "check_journal" s_check_journal f fd) (T : Tb mg) (X : Tx c) (g_is_journal : Cal P w c.K mg base 3 "is_journal" (spOf c 2 0 sp_is_journal) []) :
    FnOk P w c.K mg base CX0 4 f fd ["table", "journal"] (spOf c 2 0 sp_check_journal) := by
  refine F.ok sc_check_journal (fun vs H Q E h => ?_) (fun cdv A outer s H vs Q E hr h => ?_)
  · obtain ⟨as, F, ds, M, P, _, hn, _, rd, _⟩ := h
    rw [rd.length, hn]; rfl
  · have hu1 : (A.deeper (envOfC "check_journal" (defScope s_check_journal) s.heap.objs.size f cdv)).units + 1 < cLine := hu_of hr
    have hu8 : (A.deeper (envOfC "check_journal" (defScope s_check_journal) s.heap.objs.size f cdv)).units + 8 < cLine := by have := hr.un; omega
    have hu16 : (A.deeper (envOfC "check_journal" (defScope s_check_journal) s.heap.objs.size f cdv)).units + 16 < cLine := by have := hr.un; omega
    have hu64 : (A.deeper (envOfC "check_journal" (defScope s_check_journal) s.heap.objs.size f cdv)).units + 64 < cLine := by have := hr.un; omega
    have hu65 : (A.deeper (envOfC "check_journal" (defScope s_check_journal) s.heap.objs.size f cdv)).units + 65 < cLine := by have := hr.un; omega
    refine ⟨_, (pss_one (ps_if (pt_not (pt_val (pe_c g_is_journal hr (by decide) rfl (pa_cons (pv 0) (pa_cons (pv 1) pa_nil))))) (pss_one ps_dead) pss_nil)), ?_⟩
    refine body_okN h (by decide) fun ds M R hds hM hS => ?_
    obtain ⟨t, js, rfl, hj, hP⟩ := hS
    obtain rfl := List.length_eq_zero_iff.mp hM
    show WS c 0 _ [some (dy t), some (dy (Tp.mk js))] [] _ _
    walk_at "zs"
    · exact ⟨trivial, hP⟩
    · exact hj

theorem u_check_journal {M : Mem} {P : Dy → Mem → Prop} {t : Tab} {js : List Int} (h : P (dy ()) M) (h1 : JOk t.kinds.l js) : sp_check_journal [dy t, dy (Tp.mk js)] M P := ⟨t, js, rfl, h1, h⟩
local macro_rules | `(tactic| walk_at "zu") => `(tactic| first
  | refine u_is_integer ?_
  | refine u_is_integer_th ?_
  | refine u_is_number_below ?_ ?_
  | refine u_is_number_below_th ?_
  | refine u_is_bits ?_
  | refine u_is_lot ?_ ?_
  | refine u_is_lot_of_cells ?_ ?_ ?_
  | refine u_is_kind ?_ ?_
  | refine u_is_journal ?_ ?_
  | refine u_check_journal ?_ ?_)
local macro_rules | `(tactic| walk_at "zs1") => `(tactic| first
  | walk_at "zq"
  | walk_at "zu"
  | walk_at "zb")
local macro_rules | `(tactic| walk_at "zs") => `(tactic| repeat walk_at "zs1")
/-- fresh -/
def sp_fresh : ASp := fun ds M P => ∃ (t : Tab), ds = [dy t] ∧ 0 ≤ t.cells ∧ t.cells ≤ 8 ∧ P (dy (Tp.mk (frs t.cells.toNat))) M
theorem sc_fresh : FnScope ["table", "cell"] ["table"] (defScope s_fresh) := ⟨rfl, rfl, rfl, by decide +kernel, rfl, by decide +kernel, by decide +kernel⟩
theorem ok_fresh {f : Addr} {fd : FuncData} (F : Fun c.K "fresh" "fresh" s_fresh f fd) (T : Tb mg) (X : Tx c)  :
    FnOk P w c.K mg base CX0 1 f fd ["table"] (spOf c 1 0 sp_fresh) := by
  refine F.ok sc_fresh (fun vs H Q E h => ?_) (fun cdv A outer s H vs Q E hr h => ?_)
  · obtain ⟨as, F, ds, M, P, _, hn, _, rd, _⟩ := h
    rw [rd.length, hn]; rfl
  · have hu1 : (A.deeper (envOfC "fresh" (defScope s_fresh) s.heap.objs.size f cdv)).units + 1 < cLine := hu_of hr
    have hu8 : (A.deeper (envOfC "fresh" (defScope s_fresh) s.heap.objs.size f cdv)).units + 8 < cLine := by have := hr.un; omega
    have hu16 : (A.deeper (envOfC "fresh" (defScope s_fresh) s.heap.objs.size f cdv)).units + 16 < cLine := by have := hr.un; omega
    have hu64 : (A.deeper (envOfC "fresh" (defScope s_fresh) s.heap.objs.size f cdv)).units + 64 < cLine := by have := hr.un; omega
    have hu65 : (A.deeper (envOfC "fresh" (defScope s_fresh) s.heap.objs.size f cdv)).units + 65 < cLine := by have := hr.un; omega
    refine ⟨_, (pss_one (ps_ret (pe_callTy (r := Zq.rTup c.K) call_tuple_of (by rfl) T.b_tuple (by decide +kernel) (pa_cons (pe_lc (own := [("cell", 1)]) (g := (gName 1)) rfl sc_fresh.nd (pi_range1 rfl T.b_range (pa_cons (pe_fld (pv 0) rfl) pa_nil)) (blkOk_by (N := ["table", "cell"]) (sc := defScope s_fresh) (by decide +kernel)) (fun _ _ _ _ _ => (pg_name (i := 1) sc_fresh.nd rfl (Or.inl rfl))) (fun _ _ _ _ _ => pts_nil) (fun _ _ _ _ _ => (pe_op op_sub (pe_un un_neg pe_int) (pv 1)))) pa_nil)))), ?_⟩
    refine body_ok h (by decide) fun ds M R hds hM hS => ?_
    obtain ⟨t, rfl, h0, h8, hP⟩ := hS
    obtain rfl := List.length_eq_zero_iff.mp hM
    show WS c 0 _ [some (dy t), none] [] _ _
    walk_at "zs"
    refine we_lcM (β := Int) (γ := Int) [1] (fun i => -1 - i) (fun t ht => ht) trivial ?_
    refine wi_range ?_
    walk_at "zs"
    refine ⟨t.cells, rfl, h0, by omega, rfl, upto t.cells.toNat, rfl, by rw [upto_len]; omega, fun y hy acc => ?_, ?_⟩
    · walk_at "zs"
      refine ⟨rfl, ?_⟩
      walk_at "zs"
      exact ⟨rfl, rfl⟩
    · walk_at "zs"
      exact hP

theorem u_fresh {M : Mem} {P : Dy → Mem → Prop} {t : Tab} (h : P (dy (Tp.mk (frs t.cells.toNat))) M) (h1 : 0 ≤ t.cells) (h2 : t.cells ≤ 8) : sp_fresh [dy t] M P := ⟨t, rfl, h1, h2, h⟩
local macro_rules | `(tactic| walk_at "zu") => `(tactic| first
  | refine u_is_integer ?_
  | refine u_is_integer_th ?_
  | refine u_is_number_below ?_ ?_
  | refine u_is_number_below_th ?_
  | refine u_is_bits ?_
  | refine u_is_lot ?_ ?_
  | refine u_is_lot_of_cells ?_ ?_ ?_
  | refine u_is_kind ?_ ?_
  | refine u_is_journal ?_ ?_
  | refine u_check_journal ?_ ?_
  | refine u_fresh ?_ ?_ ?_)
local macro_rules | `(tactic| walk_at "zs1") => `(tactic| first
  | walk_at "zq"
  | walk_at "zu"
  | walk_at "zb")
local macro_rules | `(tactic| walk_at "zs") => `(tactic| repeat walk_at "zs1")
/-- last_behind -/
def sp_last_behind : ASp := fun ds M P => ∃ (t : Tab) (js : List Int), ds = [dy t, dy (0 : Int), dy (Tp.mk (frs t.cells.toNat)), dy (Tp.mk js)] ∧ KsOk t.cells t.kinds.l ∧ JOk t.kinds.l js ∧ P (dy (Tp.mk (hist t.cells t.kinds.l js).la)) M
theorem sc_last_behind : FnScope ["table", "first", "ahead", "journal", "last", "deed", "kind"] ["table", "first", "ahead", "journal"] (defScope s_last_behind) := ⟨rfl, rfl, rfl, by decide +kernel, rfl, by decide +kernel, by decide +kernel⟩
theorem ok_last_behind {f : Addr} {fd : FuncData} (F : Fun c.K "last_behind" "last_behind" s_last_behind f fd) (T : Tb mg) (X : Tx c)  :
    FnOk P w c.K mg base CX0 1 f fd ["table", "first", "ahead", "journal"] (spOf c 4 0 sp_last_behind) := by
  refine F.ok sc_last_behind (fun vs H Q E h => ?_) (fun cdv A outer s H vs Q E hr h => ?_)
  · obtain ⟨as, F, ds, M, P, _, hn, _, rd, _⟩ := h
    rw [rd.length, hn]; rfl
  · have hu1 : (A.deeper (envOfC "last_behind" (defScope s_last_behind) s.heap.objs.size f cdv)).units + 1 < cLine := hu_of hr
    have hu8 : (A.deeper (envOfC "last_behind" (defScope s_last_behind) s.heap.objs.size f cdv)).units + 8 < cLine := by have := hr.un; omega
    have hu16 : (A.deeper (envOfC "last_behind" (defScope s_last_behind) s.heap.objs.size f cdv)).units + 16 < cLine := by have := hr.un; omega
    have hu64 : (A.deeper (envOfC "last_behind" (defScope s_last_behind) s.heap.objs.size f cdv)).units + 64 < cLine := by have := hr.un; omega
    have hu65 : (A.deeper (envOfC "last_behind" (defScope s_last_behind) s.heap.objs.size f cdv)).units + 65 < cLine := by have := hr.un; omega
    refine ⟨_, (pss_cons (ps_set (i := 4) sc_last_behind.nd rfl (Or.inl rfl) (pe_callTy (r := Zq.rLst c.K) call_list_of (by rfl) T.b_list (by decide +kernel) (pa_cons (pv 2) pa_nil)))
        (pss_cons (ps_for PassesOwn.never rfl (Zr.pi_enumK true rfl T.b_enumerate (pa_cons (pv 3) pa_nil) (pk_cons (pv 1) pk_nil)) (pg_tup rfl (pgs_cons (pg_name (i := 5) sc_last_behind.nd rfl (Or.inl rfl)) (pgs_cons (pg_name (i := 6) sc_last_behind.nd rfl (Or.inl rfl)) pgs_nil))) (pss_one (ps_asg (pv 5) (pg_sub (pv 4) (pe_ix (r := rIxT c.K) ix_tup (pe_ix (r := rIxT c.K) ix_tup (pe_fld (pv 0) rfl) (pv 6) (fun _ _ => rfl)) pe_int (fun _ _ => rfl)) set_list))))
        (pss_one (ps_ret (pe_callTy (r := Zq.rTup c.K) call_tuple_of (by rfl) T.b_tuple (by decide +kernel) (pa_cons (pv 4) pa_nil)))))), ?_⟩
    refine body_ok h (by decide) fun ds M R hds hM hS => ?_
    obtain ⟨t, js, rfl, hk, hj, hP⟩ := hS
    obtain rfl := List.length_eq_zero_iff.mp hM
    show WS c 0 _ [some (dy t), some (dy (0 : Int)), some (dy (Tp.mk (frs t.cells.toNat))), some (dy (Tp.mk js)), none, none, none] [] _ _
    walk_at "zs"
    refine ws_fold (β := Int × Int) ([5] ++ [6]) (hstep t.kinds.l) (hst0 t.cells) (fun _ => [some (dy t), some (dy (0 : Int)), some (dy (Tp.mk (frs t.cells.toNat))), some (dy (Tp.mk js)), some (dy (MR.mk 0)), none, none]) (fun s => [cLst s.la]) (fun pre s => HOk t.cells pre.length s) ?_
    refine wi_enumTK (α := Int) ?_
    walk_at "zs"
    refine ⟨⟨js⟩, rfl, ?_⟩
    walk_at "zs"
    refine ⟨0, rfl, by decide, by decide, ?_⟩
    rw [numsF0]
    refine ⟨nums js, rfl, hok0 _, by walk_at "zcut", fun pre y post s e hs hJ => ?_, fun s hs hJ => ?_⟩
    · obtain ⟨h1, h2, h3, hm⟩ := nums_split e
      have ok := hj.ok hk hm
      walk_at "zs"
      refine rr_ixT (hj.at_ _ hm).1 (hj.get hm) ?_
      walk_at "zs"
      refine ⟨ok.c0, ?_, ?_, by walk_at "zcut"⟩
      · have := hJ.ll; have := ok.c1; have := ok.c0; omega
      · have := hok_step hJ ok
        rw [← h1] at this
        rw [List.length_append]; exact this
    · walk_at "zs"
      rw [hs]; exact hP

theorem u_last_behind {M : Mem} {P : Dy → Mem → Prop} {t : Tab} {js : List Int} (h : P (dy (Tp.mk (hist t.cells t.kinds.l js).la)) M) (h1 : KsOk t.cells t.kinds.l) (h2 : JOk t.kinds.l js) : sp_last_behind [dy t, dy (0 : Int), dy (Tp.mk (frs t.cells.toNat)), dy (Tp.mk js)] M P := ⟨t, js, rfl, h1, h2, h⟩
local macro_rules | `(tactic| walk_at "zu") => `(tactic| first
  | refine u_is_integer ?_
  | refine u_is_integer_th ?_
  | refine u_is_number_below ?_ ?_
  | refine u_is_number_below_th ?_
  | refine u_is_bits ?_
  | refine u_is_lot ?_ ?_
  | refine u_is_lot_of_cells ?_ ?_ ?_
  | refine u_is_kind ?_ ?_
  | refine u_is_journal ?_ ?_
  | refine u_check_journal ?_ ?_
  | refine u_fresh ?_ ?_ ?_
  | refine u_last_behind ?_ ?_ ?_)
local macro_rules | `(tactic| walk_at "zs1") => `(tactic| first
  | walk_at "zq"
  | walk_at "zu"
  | walk_at "zb")
local macro_rules | `(tactic| walk_at "zs") => `(tactic| repeat walk_at "zs1")
/-- last_versions -/
def sp_last_versions : ASp := fun ds M P => ∃ (t : Tab) (js : List Int), ds = [dy t, dy (Tp.mk js)] ∧ KsOk t.cells t.kinds.l ∧ JOk t.kinds.l js ∧ P (dy (Tp.mk (hist t.cells t.kinds.l js).la)) M
theorem sc_last_versions : FnScope ["table", "journal"] ["table", "journal"] (defScope s_last_versions) := ⟨rfl, rfl, rfl, by decide +kernel, rfl, by decide +kernel, by decide +kernel⟩
theorem ok_last_versions {f : Addr} {fd : FuncData} (F : Fun c.K "last_versions" "last_versions" s_last_versions f fd) (T : Tb mg) (X : Tx c) (g_last_behind : Cal P w c.K mg base 1 "last_behind" (spOf c 4 0 sp_last_behind) []) (g_fresh : Cal P w c.K mg base 1 "fresh" (spOf c 1 0 sp_fresh) []) :
    FnOk P w c.K mg base CX0 2 f fd ["table", "journal"] (spOf c 2 0 sp_last_versions) := by
  refine F.ok sc_last_versions (fun vs H Q E h => ?_) (fun cdv A outer s H vs Q E hr h => ?_)
  · obtain ⟨as, F, ds, M, P, _, hn, _, rd, _⟩ := h
    rw [rd.length, hn]; rfl
  · have hu1 : (A.deeper (envOfC "last_versions" (defScope s_last_versions) s.heap.objs.size f cdv)).units + 1 < cLine := hu_of hr
    have hu8 : (A.deeper (envOfC "last_versions" (defScope s_last_versions) s.heap.objs.size f cdv)).units + 8 < cLine := by have := hr.un; omega
    have hu16 : (A.deeper (envOfC "last_versions" (defScope s_last_versions) s.heap.objs.size f cdv)).units + 16 < cLine := by have := hr.un; omega
    have hu64 : (A.deeper (envOfC "last_versions" (defScope s_last_versions) s.heap.objs.size f cdv)).units + 64 < cLine := by have := hr.un; omega
    have hu65 : (A.deeper (envOfC "last_versions" (defScope s_last_versions) s.heap.objs.size f cdv)).units + 65 < cLine := by have := hr.un; omega
    refine ⟨_, (pss_one (ps_ret (pe_c g_last_behind hr (by decide) rfl (pa_cons (pv 0) (pa_cons pe_int (pa_cons (pe_c g_fresh hr (by decide) rfl (pa_cons (pv 0) pa_nil)) (pa_cons (pv 1) pa_nil))))))), ?_⟩
    refine body_ok h (by decide) fun ds M R hds hM hS => ?_
    obtain ⟨t, js, rfl, hk, hj, hP⟩ := hS
    obtain rfl := List.length_eq_zero_iff.mp hM
    show WS c 0 _ [some (dy t), some (dy (Tp.mk js))] [] _ _
    walk_at "zs"
    · exact hP
    · exact hk
    · exact hj
    · have := hk.n1; omega
    · exact hk.n8

theorem u_last_versions {M : Mem} {P : Dy → Mem → Prop} {t : Tab} {js : List Int} (h : P (dy (Tp.mk (hist t.cells t.kinds.l js).la)) M) (h1 : KsOk t.cells t.kinds.l) (h2 : JOk t.kinds.l js) : sp_last_versions [dy t, dy (Tp.mk js)] M P := ⟨t, js, rfl, h1, h2, h⟩
local macro_rules | `(tactic| walk_at "zu") => `(tactic| first
  | refine u_is_integer ?_
  | refine u_is_integer_th ?_
  | refine u_is_number_below ?_ ?_
  | refine u_is_number_below_th ?_
  | refine u_is_bits ?_
  | refine u_is_lot ?_ ?_
  | refine u_is_lot_of_cells ?_ ?_ ?_
  | refine u_is_kind ?_ ?_
  | refine u_is_journal ?_ ?_
  | refine u_check_journal ?_ ?_
  | refine u_fresh ?_ ?_ ?_
  | refine u_last_behind ?_ ?_ ?_
  | refine u_last_versions ?_ ?_ ?_)
local macro_rules | `(tactic| walk_at "zs1") => `(tactic| first
  | walk_at "zq"
  | walk_at "zu"
  | walk_at "zb")
local macro_rules | `(tactic| walk_at "zs") => `(tactic| repeat walk_at "zs1")
/-- rows_behind -/
def sp_rows_behind : ASp := fun ds M P => ∃ (t : Tab) (js : List Int), ds = [dy t, dy (0 : Int), dy (Tp.mk (frs t.cells.toNat)), dy (Tp.mk js)] ∧ KsOk t.cells t.kinds.l ∧ JOk t.kinds.l js ∧ P (dy (hist t.cells t.kinds.l js).rd) M
theorem sc_rows_behind : FnScope ["table", "first", "ahead", "journal", "last", "rows", "deed", "kind", "cell", "reads", "read"] ["table", "first", "ahead", "journal"] (defScope s_rows_behind) := ⟨rfl, rfl, rfl, by decide +kernel, rfl, by decide +kernel, by decide +kernel⟩
theorem ok_rows_behind {f : Addr} {fd : FuncData} (F : Fun c.K "rows_behind" "rows_behind" s_rows_behind f fd) (T : Tb mg) (X : Tx c)  :
    FnOk P w c.K mg base CX0 1 f fd ["table", "first", "ahead", "journal"] (spOf c 4 0 sp_rows_behind) := by
  refine F.ok sc_rows_behind (fun vs H Q E h => ?_) (fun cdv A outer s H vs Q E hr h => ?_)
  · obtain ⟨as, F, ds, M, P, _, hn, _, rd, _⟩ := h
    rw [rd.length, hn]; rfl
  · have hu1 : (A.deeper (envOfC "rows_behind" (defScope s_rows_behind) s.heap.objs.size f cdv)).units + 1 < cLine := hu_of hr
    have hu8 : (A.deeper (envOfC "rows_behind" (defScope s_rows_behind) s.heap.objs.size f cdv)).units + 8 < cLine := by have := hr.un; omega
    have hu16 : (A.deeper (envOfC "rows_behind" (defScope s_rows_behind) s.heap.objs.size f cdv)).units + 16 < cLine := by have := hr.un; omega
    have hu64 : (A.deeper (envOfC "rows_behind" (defScope s_rows_behind) s.heap.objs.size f cdv)).units + 64 < cLine := by have := hr.un; omega
    have hu65 : (A.deeper (envOfC "rows_behind" (defScope s_rows_behind) s.heap.objs.size f cdv)).units + 65 < cLine := by have := hr.un; omega
    refine ⟨_, (pss_cons (ps_set (i := 4) sc_rows_behind.nd rfl (Or.inr rfl) (pe_callTy (r := Zq.rLst c.K) call_list_of (by rfl) T.b_list (by decide +kernel) (pa_cons (pv 2) pa_nil)))
        (pss_cons (ps_set (i := 5) sc_rows_behind.nd rfl (Or.inl rfl) (pe_lst pa_nil))
        (pss_cons (ps_for PassesOwn.never rfl (Zr.pi_enumK true rfl T.b_enumerate (pa_cons (pv 3) pa_nil) (pk_cons (pv 1) pk_nil)) (pg_tup rfl (pgs_cons (pg_name (i := 6) sc_rows_behind.nd rfl (Or.inl rfl)) (pgs_cons (pg_name (i := 7) sc_rows_behind.nd rfl (Or.inl rfl)) pgs_nil))) (pss_cons (ps_asg (pe_ix (r := rIxT c.K) ix_tup (pe_fld (pv 0) rfl) (pv 7) (fun _ _ => rfl)) (pg_tup rfl (pgs_cons (pg_name (i := 8) sc_rows_behind.nd rfl (Or.inl rfl)) (pgs_cons (pg_name (i := 9) sc_rows_behind.nd rfl (Or.inl rfl)) pgs_nil))))
        (pss_cons (ps_expr (pe_bm PySem.F.plainAttrs_list PySem.F.slot_list_append PySem.F.type_list_append mt_append (pv 5) (pa_cons (pe_callTy (r := Zq.rTup c.K) call_tuple_of (by rfl) T.b_tuple (by decide +kernel) (pa_cons (pe_lc (own := [("read", 10)]) (g := (gName 10)) rfl sc_rows_behind.nd (pi_tup (pv 9)) (blkOk_by (N := ["table", "first", "ahead", "journal", "last", "rows", "deed", "kind", "cell", "reads", "read"]) (sc := defScope s_rows_behind) (by decide +kernel)) (fun _ _ _ _ _ => (pg_name (i := 10) sc_rows_behind.nd rfl (Or.inl rfl))) (fun _ _ _ _ _ => pts_nil) (fun _ _ _ _ _ => (pe_ix (r := rIxL c.K) ix_list (pv 4) (pv 10) (fun _ _ => rfl)))) pa_nil)) pa_nil)))
        (pss_one (ps_asg (pv 6) (pg_sub (pv 4) (pv 8) set_list))))))
        (pss_one (ps_ret (pv 5)))))), ?_⟩
    refine body_ok h (by decide) fun ds M R hds hM hS => ?_
    obtain ⟨t, js, rfl, hk, hj, hP⟩ := hS
    obtain rfl := List.length_eq_zero_iff.mp hM
    show WS c 0 _ [some (dy t), some (dy (0 : Int)), some (dy (Tp.mk (frs t.cells.toNat))), some (dy (Tp.mk js)), none, none, none, none, none, none, none] [] _ _
    walk_at "zs"
    refine we_lstC (α := Tp Int) ?_
    walk_at "zs"
    refine ⟨[], rfl, Nat.zero_le _, ?_⟩
    walk_at "zs"
    refine ws_fold (β := Int × Int) ([6] ++ [7]) (hstep t.kinds.l) (hst0 t.cells) (fun _ => [some (dy t), some (dy (0 : Int)), some (dy (Tp.mk (frs t.cells.toNat))), some (dy (Tp.mk js)), some (dy (MR.mk 0)), some (dy (MR.mk 1)), none, none, none, none, none]) (fun s => [cLst s.la, cLst s.rd]) (fun pre s => HOk t.cells pre.length s) ?_
    refine wi_enumTK (α := Int) ?_
    walk_at "zs"
    refine ⟨⟨js⟩, rfl, ?_⟩
    walk_at "zs"
    refine ⟨0, rfl, by decide, by decide, ?_⟩
    rw [numsF0]
    refine ⟨nums js, rfl, hok0 _, by walk_at "zcut", fun pre y post s e hs hJ => ?_, fun s hs hJ => ?_⟩
    · obtain ⟨h1, h2, h3, hm⟩ := nums_split e
      have ok := hj.ok hk hm
      have pl : pre.length < js.length := h2
      walk_at "zs"
      refine rr_ixT (hj.at_ _ hm).1 (hj.get hm) ?_
      walk_at "zs"
      refine ws_app (α := Tp Int) ?_
      walk_at "zs"
      refine we_lcM (β := Int) (γ := Int) [10] (fun r => s.la.getD r.toNat 0) (fun t ht => ht) (by walk_at "zok") ?_
      refine wi_tup (α := Int) ?_
      walk_at "zs"
      refine ⟨_, rfl, rfl, (kat t.kinds.l y.2).2.l, rfl, by have := ok.len; omega, fun r hr acc => ?_, ?_⟩
      · walk_at "zs"
        refine ⟨rfl, ?_⟩
        walk_at "zs"
        have b := ok.r0 r hr
        refine rr_ixM (xs := s.la) rfl b.1 (getD_get (by have := hJ.ll; omega)) ?_
        exact ⟨rfl, rfl⟩
      · walk_at "zs"
        refine ⟨by have := hJ.rl; have := hj.len; omega, ?_⟩
        walk_at "zs"
        refine ⟨ok.c0, ?_, ?_, by walk_at "zcut"⟩
        · have := hJ.ll; have := ok.c1; have := ok.c0; omega
        · have := hok_step hJ ok
          rw [← h1] at this
          rw [List.length_append]; exact this
    · refine ws_retC (α := Tp Int) ?_
      walk_at "zs"
      exact ⟨_, Nat.zero_le _, rfl, Free.l _ _, trivial, by rw [hs]; exact hP⟩

theorem u_rows_behind {M : Mem} {P : Dy → Mem → Prop} {t : Tab} {js : List Int} (h : P (dy (hist t.cells t.kinds.l js).rd) M) (h1 : KsOk t.cells t.kinds.l) (h2 : JOk t.kinds.l js) : sp_rows_behind [dy t, dy (0 : Int), dy (Tp.mk (frs t.cells.toNat)), dy (Tp.mk js)] M P := ⟨t, js, rfl, h1, h2, h⟩
local macro_rules | `(tactic| walk_at "zu") => `(tactic| first
  | refine u_is_integer ?_
  | refine u_is_integer_th ?_
  | refine u_is_number_below ?_ ?_
  | refine u_is_number_below_th ?_
  | refine u_is_bits ?_
  | refine u_is_lot ?_ ?_
  | refine u_is_lot_of_cells ?_ ?_ ?_
  | refine u_is_kind ?_ ?_
  | refine u_is_journal ?_ ?_
  | refine u_check_journal ?_ ?_
  | refine u_fresh ?_ ?_ ?_
  | refine u_last_behind ?_ ?_ ?_
  | refine u_last_versions ?_ ?_ ?_
  | refine u_rows_behind ?_ ?_ ?_)
local macro_rules | `(tactic| walk_at "zs1") => `(tactic| first
  | walk_at "zq"
  | walk_at "zu"
  | walk_at "zb")
local macro_rules | `(tactic| walk_at "zs") => `(tactic| repeat walk_at "zs1")
/-- source_rows -/
def sp_source_rows : ASp := fun ds M P => ∃ (t : Tab) (js : List Int), ds = [dy t, dy (Tp.mk js)] ∧ KsOk t.cells t.kinds.l ∧ JOk t.kinds.l js ∧ P (dy (hist t.cells t.kinds.l js).rd) M
theorem sc_source_rows : FnScope ["table", "journal"] ["table", "journal"] (defScope s_source_rows) := ⟨rfl, rfl, rfl, by decide +kernel, rfl, by decide +kernel, by decide +kernel⟩
theorem ok_source_rows {f : Addr} {fd : FuncData} (F : Fun c.K "source_rows" "source_rows" s_source_rows f fd) (T : Tb mg) (X : Tx c) (g_rows_behind : Cal P w c.K mg base 1 "rows_behind" (spOf c 4 0 sp_rows_behind) []) (g_fresh : Cal P w c.K mg base 1 "fresh" (spOf c 1 0 sp_fresh) []) :
    FnOk P w c.K mg base CX0 2 f fd ["table", "journal"] (spOf c 2 0 sp_source_rows) := by
  refine F.ok sc_source_rows (fun vs H Q E h => ?_) (fun cdv A outer s H vs Q E hr h => ?_)
  · obtain ⟨as, F, ds, M, P, _, hn, _, rd, _⟩ := h
    rw [rd.length, hn]; rfl
  · have hu1 : (A.deeper (envOfC "source_rows" (defScope s_source_rows) s.heap.objs.size f cdv)).units + 1 < cLine := hu_of hr
    have hu8 : (A.deeper (envOfC "source_rows" (defScope s_source_rows) s.heap.objs.size f cdv)).units + 8 < cLine := by have := hr.un; omega
    have hu16 : (A.deeper (envOfC "source_rows" (defScope s_source_rows) s.heap.objs.size f cdv)).units + 16 < cLine := by have := hr.un; omega
    have hu64 : (A.deeper (envOfC "source_rows" (defScope s_source_rows) s.heap.objs.size f cdv)).units + 64 < cLine := by have := hr.un; omega
    have hu65 : (A.deeper (envOfC "source_rows" (defScope s_source_rows) s.heap.objs.size f cdv)).units + 65 < cLine := by have := hr.un; omega
    refine ⟨_, (pss_one (ps_ret (pe_c g_rows_behind hr (by decide) rfl (pa_cons (pv 0) (pa_cons pe_int (pa_cons (pe_c g_fresh hr (by decide) rfl (pa_cons (pv 0) pa_nil)) (pa_cons (pv 1) pa_nil))))))), ?_⟩
    refine body_ok h (by decide) fun ds M R hds hM hS => ?_
    obtain ⟨t, js, rfl, hk, hj, hP⟩ := hS
    obtain rfl := List.length_eq_zero_iff.mp hM
    show WS c 0 _ [some (dy t), some (dy (Tp.mk js))] [] _ _
    walk_at "zs"
    · exact hP
    · exact hk
    · exact hj
    · have := hk.n1; omega
    · exact hk.n8

theorem u_source_rows {M : Mem} {P : Dy → Mem → Prop} {t : Tab} {js : List Int} (h : P (dy (hist t.cells t.kinds.l js).rd) M) (h1 : KsOk t.cells t.kinds.l) (h2 : JOk t.kinds.l js) : sp_source_rows [dy t, dy (Tp.mk js)] M P := ⟨t, js, rfl, h1, h2, h⟩
local macro_rules | `(tactic| walk_at "zu") => `(tactic| first
  | refine u_is_integer ?_
  | refine u_is_integer_th ?_
  | refine u_is_number_below ?_ ?_
  | refine u_is_number_below_th ?_
  | refine u_is_bits ?_
  | refine u_is_lot ?_ ?_
  | refine u_is_lot_of_cells ?_ ?_ ?_
  | refine u_is_kind ?_ ?_
  | refine u_is_journal ?_ ?_
  | refine u_check_journal ?_ ?_
  | refine u_fresh ?_ ?_ ?_
  | refine u_last_behind ?_ ?_ ?_
  | refine u_last_versions ?_ ?_ ?_
  | refine u_rows_behind ?_ ?_ ?_
  | refine u_source_rows ?_ ?_ ?_)
local macro_rules | `(tactic| walk_at "zs1") => `(tactic| first
  | walk_at "zq"
  | walk_at "zu"
  | walk_at "zb")
local macro_rules | `(tactic| walk_at "zs") => `(tactic| repeat walk_at "zs1")
end
end K03
end
section
set_option Elab.async false
set_option linter.all false
set_option maxRecDepth 100000
set_option maxHeartbeats 4000000
namespace K03
open PySem PySem.Spec PyProof.Rows L2 Zq K02
open C8 (Cal Mak pe_c pe_mk pe_gc)
local macro_rules | `(tactic| walk_at "zq") => `(tactic| first
  | with_reducible refine ws_seq ?_
  | with_reducible refine ws_asg ?_
  | (with_reducible apply ws_asgG)
  | with_reducible refine ws_next ?_
  | with_reducible refine ws_ret ?_
  | with_reducible refine ws_if ?_
  | with_reducible refine ws_dput (β := Bool) ?_
  | with_reducible refine ws_drop (te := tCall _ _ _ _) ?_
  | with_reducible refine as_dy ?_
  | ((with_reducible apply we_var); focus rfl)
  | with_reducible refine we_int ?_
  | with_reducible refine we_bl ?_
  | with_reducible refine we_non ?_
  | with_reducible refine we_ty ?_
  | with_reducible refine we_str ?_
  | with_reducible refine we_op2 ?_
  | with_reducible refine we_neg ?_
  | with_reducible refine we_andV ?_
  | with_reducible refine we_orV ?_
  | with_reducible refine we_notV ?_
  | with_reducible refine we_chain ?_
  | with_reducible refine we_if ?_
  | with_reducible refine we_cb ?_
  | with_reducible refine tup_pair ?_
  | with_reducible refine tup_three ?_
  | with_reducible refine tup_nil ?_
  | with_reducible refine we_call ?_
  | with_reducible refine we_callD ?_
  | with_reducible refine we_tup ?_
  | refine we_cells (Tx.cl (by assumption)) (Tx.nc (by assumption)) ?_
  | refine we_kinds (Tx.cl (by assumption)) (Tx.nk (by assumption)) ?_
  | with_reducible refine wt_test ?_
  | with_reducible refine wt_B ?_
  | with_reducible refine wt_not ?_
  | with_reducible refine wt_and ?_
  | with_reducible refine wt_or ?_
  | with_reducible refine wt_yes ?_
  | with_reducible refine wa_cons ?_
  | with_reducible refine wa_nil ?_
  | with_reducible refine rr_II ?_
  | with_reducible refine rr_isTrue ?_
  | with_reducible refine rr_notTrue ?_
  | with_reducible refine rr_isN0 ?_
  | with_reducible refine rr_notN0 ?_
  | with_reducible refine rr_isN ?_
  | with_reducible refine rr_notN ?_
  | with_reducible refine rr_IB ?_
  | with_reducible refine rr_eqI ?_
  | with_reducible refine rr_neI ?_
  | with_reducible refine rr_eqB ?_
  | with_reducible refine rr_ixP0 ?_
  | with_reducible refine rr_ixP1 ?_
  | with_reducible refine rr_ix30 ?_
  | with_reducible refine rr_ix31 ?_
  | with_reducible refine rr_ix32 ?_
  | with_reducible refine rr_leK ?_
  | refine rr_eqD ?_
  | refine rr_neD ?_
  | with_reducible refine rr_inT ?_
  | with_reducible refine rr_ninT ?_
  | with_reducible refine rr_inL ?_
  | with_reducible refine rr_ninL ?_
  | with_reducible refine rc_isi kit_ii ?_
  | with_reducible refine rc_isi kit_ib ?_
  | with_reducible refine rc_isi kit_bb ?_
  | with_reducible refine rc_isi kit_tt ?_
  | refine rc_isInt (Tx.isi (by assumption)) ?_
  | refine rc_isBl (Tx.isi (by assumption)) ?_
  | refine rc_isTup (Tx.isi (by assumption)) ?_
  | refine rc_isStr (Tx.isi (by assumption)) ?_
  | with_reducible refine rc_lenL ?_
  | with_reducible refine rc_lenT ?_
  | with_reducible refine rc_lenP ?_
  | with_reducible refine rc_tupL ?_
  | refine rc_lenM rfl ?_
  | refine rc_tupM rfl ?_
  | ((with_reducible apply rr_inM); focus rfl)
  | ((with_reducible apply rr_ninM); focus rfl)
  | with_reducible refine rc_lstTC ?_
  | with_reducible apply wg_setM
  | refine ex_l rfl ?_
  | refine ex_d rfl ?_
  | with_reducible refine rc_int ?_
  | with_reducible refine rc_abs ?_
  | with_reducible refine rc_min2 ?_
  | with_reducible refine rc_all ?_
  | with_reducible refine rc_any ?_
  | with_reducible refine wg_name ?_
  | (apply wg_tup2)
  | (apply wg_tup3))
local macro_rules | `(tactic| walk_at "zqs") => `(tactic| repeat walk_at "zq")
local macro_rules | `(tactic| walk_at "zok1") => `(tactic| first
  | exact trivial
  | exact dy_ok _ _
  | exact cLst_ok _ _
  | exact cDic_ok _ _
  | exact hand_ok _
  | exact handX_ok
  | exact okM_nil
  | exact okE_nil
  | exact okDs_nil
  | refine okM_cons ?_ ?_
  | refine okDs_cons ?_ ?_
  | refine okE_none ?_
  | refine okE_cons ?_ ?_
  | exact mr_ok (Nat.le_of_ble_eq_true rfl)
  | exact Free.l _ _
  | exact Free.k _ _
  | exact Free.ok _ _
  | exact Frg.refl _
  | exact Frg.nil
  | refine Frg.same ?_
  | refine Frg.drop ?_)
local macro_rules | `(tactic| walk_at "zok") => `(tactic| repeat walk_at "zok1")
local macro_rules | `(tactic| walk_at "zcut") => `(tactic| exact Cut.mk (by walk_at "zok") (by walk_at "zok") (by walk_at "zok") rfl)
local macro_rules | `(tactic| walk_at "zb") => `(tactic| first
  | with_reducible refine bt_tt ?_
  | with_reducible refine bt_ff ?_
  | with_reducible refine bt_nt ?_
  | with_reducible refine bt_nf ?_
  | with_reducible refine bt_ft ?_
  | with_reducible refine bt_tf ?_
  | with_reducible refine bt_nt' ?_
  | with_reducible refine bt_nf' ?_
  | (with_reducible refine bt_t ?_ ?_
     focus (first | rfl | assumption))
  | (with_reducible refine bt_f ?_ ?_
     focus (first | rfl | assumption))
  | (with_reducible refine bt_t' ?_ ?_
     focus (first | rfl | assumption))
  | (with_reducible refine bt_f' ?_ ?_
     focus (first | rfl | assumption))
  | (refine ca5 ?_ ?_ ?_ ?_ ?_
     focus (first | rfl | decide)
     focus (first | exact Nat.zero_le _ | exact Nat.le_of_ble_eq_true rfl)
     focus (walk_at "zok"; done)
     focus (walk_at "zok"; done))
  | (refine ca3 ?_ ?_ ?_
     focus (walk_at "zok"; done)
     focus (walk_at "zok"; done)))

local macro_rules | `(tactic| walk_at "zu") => `(tactic| first
  | refine u_is_integer ?_
  | refine u_is_integer_th ?_
  | refine u_is_number_below ?_ ?_
  | refine u_is_number_below_th ?_
  | refine u_is_bits ?_
  | refine u_is_lot ?_ ?_
  | refine u_is_lot_of_cells ?_ ?_ ?_
  | refine u_is_kind ?_ ?_
  | refine u_is_journal ?_ ?_
  | refine u_check_journal ?_ ?_
  | refine u_fresh ?_ ?_ ?_
  | refine u_last_behind ?_ ?_ ?_
  | refine u_last_versions ?_ ?_ ?_
  | refine u_rows_behind ?_ ?_ ?_
  | refine u_source_rows ?_ ?_ ?_)
local macro_rules | `(tactic| walk_at "zs1") => `(tactic| first
  | walk_at "zq"
  | walk_at "zu"
  | walk_at "zb")
local macro_rules | `(tactic| walk_at "zs") => `(tactic| repeat walk_at "zs1")
section
variable {P : Program} {w : World} {c : Cc} {mg : Str → Option Value} {base : Heap}
/-- is_version -/
def sp_is_version : ASp := fun ds M P => ∃ (t : Tab) (js : List Int) (x v : Int), ds = [dy t, dy (Tp.mk js), dy x, dy v] ∧ KsOk t.cells t.kinds.l ∧ JOk t.kinds.l js ∧ 0 ≤ x ∧ (v = -1 - x ∨ (0 ≤ v ∧ (hist t.cells t.kinds.l js).wr[v.toNat]? = some x)) ∧ P (dy true) M
theorem sc_is_version : FnScope ["table", "journal", "cell", "thing"] ["table", "journal", "cell", "thing"] (defScope s_is_version) := ⟨rfl, rfl, rfl, by decide +kernel, rfl, by decide +kernel, by decide +kernel⟩
theorem ok_is_version {f : Addr} {fd : FuncData} (F : Fun c.K "is_version" "is_version" s_is_version f fd) (T : Tb mg) (X : Tx c) (g_is_number_below : Cal P w c.K mg base 2 "is_number_below" (spOf c 2 0 sp_is_number_below) []) (g_is_integer : Cal P w c.K mg base 1 "is_integer" (spOf c 1 0 sp_is_integer) []) :
    FnOk P w c.K mg base CX0 3 f fd ["table", "journal", "cell", "thing"] (spOf c 4 0 sp_is_version) := by
  refine F.ok sc_is_version (fun vs H Q E h => ?_) (fun cdv A outer s H vs Q E hr h => ?_)
  · obtain ⟨as, F, ds, M, P, _, hn, _, rd, _⟩ := h
    rw [rd.length, hn]; rfl
  · have hu1 : (A.deeper (envOfC "is_version" (defScope s_is_version) s.heap.objs.size f cdv)).units + 1 < cLine := hu_of hr
    have hu8 : (A.deeper (envOfC "is_version" (defScope s_is_version) s.heap.objs.size f cdv)).units + 8 < cLine := by have := hr.un; omega
    have hu16 : (A.deeper (envOfC "is_version" (defScope s_is_version) s.heap.objs.size f cdv)).units + 16 < cLine := by have := hr.un; omega
    have hu64 : (A.deeper (envOfC "is_version" (defScope s_is_version) s.heap.objs.size f cdv)).units + 64 < cLine := by have := hr.un; omega
    have hu65 : (A.deeper (envOfC "is_version" (defScope s_is_version) s.heap.objs.size f cdv)).units + 65 < cLine := by have := hr.un; omega
    refine ⟨_, (pss_cons (ps_if (pt_val (pe_c g_is_number_below hr (by decide) rfl (pa_cons (pe_callB (r := Zq.rLen c.K) call_len_seq (by rfl) T.b_len (by decide +kernel) (pa_cons (pv 1) pa_nil)) (pa_cons (pv 3) pa_nil)))) (pss_one (ps_ret (pe_cmpR op_eq (pe_ix (r := rIxT c.K) ix_tup (pe_ix (r := rIxT c.K) ix_tup (pe_fld (pv 0) rfl) (pe_ix (r := rIxT c.K) ix_tup (pv 1) (pv 3) (fun _ _ => rfl)) (fun _ _ => rfl)) pe_int (fun _ _ => rfl)) (pv 2) (nomark _)))) pss_nil)
        (pss_one (ps_ret (pe_and (pe_c g_is_integer hr (by decide) rfl (pa_cons (pv 3) pa_nil)) (pe_one (pe_cmpR op_eq (pv 3) (pe_op op_sub (pe_un un_neg pe_int) (pv 2)) (nomark _))))))), ?_⟩
    refine body_ok h (by decide) fun ds M R hds hM hS => ?_
    obtain ⟨t, js, x, v, rfl, hk, hj, h0, hv, hP⟩ := hS
    obtain rfl := List.length_eq_zero_iff.mp hM
    show WS c 0 _ [some (dy t), some (dy (Tp.mk js)), some (dy x), some (dy v)] [] _ _
    rcases hv with rfl | ⟨hv0, hv⟩
    · repeat walk_at "zq"
      refine ⟨rfl, Nat.zero_le _, by walk_at "zok", trivial, _, .int _, by rw [th_int], ?_⟩
      rw [show below (((Tp.mk js).l.length : Nat) : Int) (Th.int (-1 - x)) = false by show (decide (0 ≤ -1 - x) && decide (-1 - x < (((Tp.mk js).l.length : Nat) : Int))) = false; rw [decide_eq_false (show ¬ (0 ≤ -1 - x) by omega)]; rfl]
      walk_at "zs"
      rw [show decide (-1 - x = -1 - x) = true from decide_eq_true rfl]
      exact hP
    · rw [wr_eq, List.getElem?_map] at hv
      cases hjv : js[v.toNat]? with
      | none => rw [hjv] at hv; cases hv
      | some j =>
        rw [hjv] at hv
        have hv' : (kat t.kinds.l j).1 = x := by simpa using hv
        have hl := (List.getElem?_eq_some_iff.mp hjv).1
        have hm := List.mem_of_getElem? hjv
        walk_at "zs"
        · refine rr_ixT hv0 hjv ?_
          refine rr_ixT (hj.at_ _ hm).1 (hj.get hm) ?_
          walk_at "zs"
          rw [decide_eq_true hv']
          exact hP
        · exact ⟨hv0, by show v < ((js.length : Nat) : Int); omega⟩

theorem u_is_version {M : Mem} {P : Dy → Mem → Prop} {t : Tab} {js : List Int} {x v : Int} (h : P (dy true) M) (h1 : KsOk t.cells t.kinds.l) (h2 : JOk t.kinds.l js) (h3 : 0 ≤ x) (h4 : v = -1 - x ∨ (0 ≤ v ∧ (hist t.cells t.kinds.l js).wr[v.toNat]? = some x)) : sp_is_version [dy t, dy (Tp.mk js), dy x, dy v] M P := ⟨t, js, x, v, rfl, h1, h2, h3, h4, h⟩
local macro_rules | `(tactic| walk_at "zu") => `(tactic| first
  | refine u_is_integer ?_
  | refine u_is_integer_th ?_
  | refine u_is_number_below ?_ ?_
  | refine u_is_number_below_th ?_
  | refine u_is_bits ?_
  | refine u_is_lot ?_ ?_
  | refine u_is_lot_of_cells ?_ ?_ ?_
  | refine u_is_kind ?_ ?_
  | refine u_is_journal ?_ ?_
  | refine u_check_journal ?_ ?_
  | refine u_fresh ?_ ?_ ?_
  | refine u_last_behind ?_ ?_ ?_
  | refine u_last_versions ?_ ?_ ?_
  | refine u_rows_behind ?_ ?_ ?_
  | refine u_source_rows ?_ ?_ ?_
  | refine u_is_version ?_ ?_ ?_ ?_ ?_)
local macro_rules | `(tactic| walk_at "zs1") => `(tactic| first
  | walk_at "zq"
  | walk_at "zu"
  | walk_at "zb")
local macro_rules | `(tactic| walk_at "zs") => `(tactic| repeat walk_at "zs1")
/-- is_plates -/
def sp_is_plates : ASp := fun ds M P => ∃ (t : Tab) (js ps : List Int), ds = [dy t, dy (Tp.mk js), dy (Tp.mk ps)] ∧ KsOk t.cells t.kinds.l ∧ JOk t.kinds.l js ∧ POk t.cells (hist t.cells t.kinds.l js).wr ps ∧ P (dy true) M
theorem sc_is_plates : FnScope ["table", "journal", "thing", "cell", "version"] ["table", "journal", "thing"] (defScope s_is_plates) := ⟨rfl, rfl, rfl, by decide +kernel, rfl, by decide +kernel, by decide +kernel⟩
theorem ok_is_plates {f : Addr} {fd : FuncData} (F : Fun c.K "is_plates" "is_plates" s_is_plates f fd) (T : Tb mg) (X : Tx c) (g_check_journal : Cal P w c.K mg base 4 "check_journal" (spOf c 2 0 sp_check_journal) []) (g_is_version : Cal P w c.K mg base 3 "is_version" (spOf c 4 0 sp_is_version) []) :
    FnOk P w c.K mg base CX0 5 f fd ["table", "journal", "thing"] (spOf c 3 0 sp_is_plates) := by
  refine F.ok sc_is_plates (fun vs H Q E h => ?_) (fun cdv A outer s H vs Q E hr h => ?_)
  · obtain ⟨as, F, ds, M, P, _, hn, _, rd, _⟩ := h
    rw [rd.length, hn]; rfl
  · have hu1 : (A.deeper (envOfC "is_plates" (defScope s_is_plates) s.heap.objs.size f cdv)).units + 1 < cLine := hu_of hr
    have hu8 : (A.deeper (envOfC "is_plates" (defScope s_is_plates) s.heap.objs.size f cdv)).units + 8 < cLine := by have := hr.un; omega
    have hu16 : (A.deeper (envOfC "is_plates" (defScope s_is_plates) s.heap.objs.size f cdv)).units + 16 < cLine := by have := hr.un; omega
    have hu64 : (A.deeper (envOfC "is_plates" (defScope s_is_plates) s.heap.objs.size f cdv)).units + 64 < cLine := by have := hr.un; omega
    have hu65 : (A.deeper (envOfC "is_plates" (defScope s_is_plates) s.heap.objs.size f cdv)).units + 65 < cLine := by have := hr.un; omega
    refine ⟨_, (pss_cons (ps_expr (pe_c g_check_journal hr (by decide) rfl (pa_cons (pv 0) (pa_cons (pv 1) pa_nil))))
        (pss_cons (ps_if (PW.pt (pw_or (pt_not (pt_val (pe_callB (r := rIsi c.K) call_isi (by rfl) T.b_isinstance (by decide +kernel) (pa_cons (pv 2) (pa_cons (pe_bltn (v := .ty "tuple") rfl T.b_tuple (by decide +kernel) rfl) pa_nil))))) (pw_or1 (pt_cmpR op_ne (pe_callB (r := Zq.rLen c.K) call_len_seq (by rfl) T.b_len (by decide +kernel) (pa_cons (pv 2) pa_nil)) (pe_fld (pv 0) rfl) (nomark _))))) (pss_one (ps_ret pe_bl)) pss_nil)
        (pss_cons (ps_for PassesOwn.never rfl (Zr.pi_enumT rfl T.b_enumerate (pa_cons (pv 2) pa_nil)) (pg_tup rfl (pgs_cons (pg_name (i := 3) sc_is_plates.nd rfl (Or.inl rfl)) (pgs_cons (pg_name (i := 4) sc_is_plates.nd rfl (Or.inl rfl)) pgs_nil))) (pss_one (ps_if (pt_not (pt_val (pe_c g_is_version hr (by decide) rfl (pa_cons (pv 0) (pa_cons (pv 1) (pa_cons (pv 3) (pa_cons (pv 4) pa_nil))))))) (pss_one (ps_ret pe_bl)) pss_nil)))
        (pss_one (ps_ret pe_bl))))), ?_⟩
    refine body_ok h (by decide) fun ds M R hds hM hS => ?_
    obtain ⟨t, js, ps, rfl, hk, hj, hp, hP⟩ := hS
    have n1 := hk.n1
    have e1 : (!decide (((ps.length : Nat) : Int) = t.cells)) = false := by rw [hp.len, decide_eq_true (by omega)]; rfl
    obtain rfl := List.length_eq_zero_iff.mp hM
    show WS c 0 _ [some (dy t), some (dy (Tp.mk js)), some (dy (Tp.mk ps)), none, none] [] _ _
    walk_at "zs"
    · refine ws_fold (S := Unit) (β := Int × Int) ([3] ++ [4]) (fun _ _ => ()) () (fun _ => [some (dy t), some (dy (Tp.mk js)), some (dy (Tp.mk ps)), none, none]) (fun _ => []) (fun _ _ => True) ?_
      refine wi_enumT (α := Int) ?_
      walk_at "zs"
      refine ⟨⟨ps⟩, rfl, nums ps, rfl, trivial, by walk_at "zcut", fun pre y post s e hs hJ => ?_, fun s hs hJ => ?_⟩
      · obtain ⟨h1, h2, h3, hm⟩ := nums_split e
        walk_at "zs"
        · exact ⟨trivial, by walk_at "zcut"⟩
        · exact hk
        · exact hj
        · omega
        · rw [h1]; exact hp.at_ _ _ h3
      · walk_at "zs"
        exact hP
    · exact hj

theorem u_is_plates {M : Mem} {P : Dy → Mem → Prop} {t : Tab} {js ps : List Int} (h : P (dy true) M) (h1 : KsOk t.cells t.kinds.l) (h2 : JOk t.kinds.l js) (h3 : POk t.cells (hist t.cells t.kinds.l js).wr ps) : sp_is_plates [dy t, dy (Tp.mk js), dy (Tp.mk ps)] M P := ⟨t, js, ps, rfl, h1, h2, h3, h⟩
local macro_rules | `(tactic| walk_at "zu") => `(tactic| first
  | refine u_is_integer ?_
  | refine u_is_integer_th ?_
  | refine u_is_number_below ?_ ?_
  | refine u_is_number_below_th ?_
  | refine u_is_bits ?_
  | refine u_is_lot ?_ ?_
  | refine u_is_lot_of_cells ?_ ?_ ?_
  | refine u_is_kind ?_ ?_
  | refine u_is_journal ?_ ?_
  | refine u_check_journal ?_ ?_
  | refine u_fresh ?_ ?_ ?_
  | refine u_last_behind ?_ ?_ ?_
  | refine u_last_versions ?_ ?_ ?_
  | refine u_rows_behind ?_ ?_ ?_
  | refine u_source_rows ?_ ?_ ?_
  | refine u_is_version ?_ ?_ ?_ ?_ ?_
  | refine u_is_plates ?_ ?_ ?_ ?_)
local macro_rules | `(tactic| walk_at "zs1") => `(tactic| first
  | walk_at "zq"
  | walk_at "zu"
  | walk_at "zb")
local macro_rules | `(tactic| walk_at "zs") => `(tactic| repeat walk_at "zs1")
/-- check_plates -/
def sp_check_plates : ASp := fun ds M P => ∃ (t : Tab) (js ps : List Int), ds = [dy t, dy (Tp.mk js), dy (Tp.mk ps)] ∧ KsOk t.cells t.kinds.l ∧ JOk t.kinds.l js ∧ POk t.cells (hist t.cells t.kinds.l js).wr ps ∧ P (dy ()) M
theorem sc_check_plates : FnScope ["table", "journal", "plates"] ["table", "journal", "plates"] (defScope s_check_plates) := ⟨rfl, rfl, rfl, by decide +kernel, rfl, by decide +kernel, by decide +kernel⟩
theorem ok_check_plates {f : Addr} {fd : FuncData} (F : Fun c.K "check_plates" "check_plates" s_check_plates f fd) (T : Tb mg) (X : Tx c) (g_is_plates : Cal P w c.K mg base 5 "is_plates" (spOf c 3 0 sp_is_plates) []) :
    FnOk P w c.K mg base CX0 6 f fd ["table", "journal", "plates"] (spOf c 3 0 sp_check_plates) := by
  refine F.ok sc_check_plates (fun vs H Q E h => ?_) (fun cdv A outer s H vs Q E hr h => ?_)
  · obtain ⟨as, F, ds, M, P, _, hn, _, rd, _⟩ := h
    rw [rd.length, hn]; rfl
  · have hu1 : (A.deeper (envOfC "check_plates" (defScope s_check_plates) s.heap.objs.size f cdv)).units + 1 < cLine := hu_of hr
    have hu8 : (A.deeper (envOfC "check_plates" (defScope s_check_plates) s.heap.objs.size f cdv)).units + 8 < cLine := by have := hr.un; omega
    have hu16 : (A.deeper (envOfC "check_plates" (defScope s_check_plates) s.heap.objs.size f cdv)).units + 16 < cLine := by have := hr.un; omega
    have hu64 : (A.deeper (envOfC "check_plates" (defScope s_check_plates) s.heap.objs.size f cdv)).units + 64 < cLine := by have := hr.un; omega
    have hu65 : (A.deeper (envOfC "check_plates" (defScope s_check_plates) s.heap.objs.size f cdv)).units + 65 < cLine := by have := hr.un; omega
    refine ⟨_, (pss_one (ps_if (pt_not (pt_val (pe_c g_is_plates hr (by decide) rfl (pa_cons (pv 0) (pa_cons (pv 1) (pa_cons (pv 2) pa_nil)))))) (pss_one ps_dead) pss_nil)), ?_⟩
    refine body_okN h (by decide) fun ds M R hds hM hS => ?_
    obtain ⟨t, js, ps, rfl, hk, hj, hp, hP⟩ := hS
    obtain rfl := List.length_eq_zero_iff.mp hM
    show WS c 0 _ [some (dy t), some (dy (Tp.mk js)), some (dy (Tp.mk ps))] [] _ _
    walk_at "zs"
    · exact ⟨trivial, hP⟩
    · exact hk
    · exact hj
    · exact hp

theorem u_check_plates {M : Mem} {P : Dy → Mem → Prop} {t : Tab} {js ps : List Int} (h : P (dy ()) M) (h1 : KsOk t.cells t.kinds.l) (h2 : JOk t.kinds.l js) (h3 : POk t.cells (hist t.cells t.kinds.l js).wr ps) : sp_check_plates [dy t, dy (Tp.mk js), dy (Tp.mk ps)] M P := ⟨t, js, ps, rfl, h1, h2, h3, h⟩
local macro_rules | `(tactic| walk_at "zu") => `(tactic| first
  | refine u_is_integer ?_
  | refine u_is_integer_th ?_
  | refine u_is_number_below ?_ ?_
  | refine u_is_number_below_th ?_
  | refine u_is_bits ?_
  | refine u_is_lot ?_ ?_
  | refine u_is_lot_of_cells ?_ ?_ ?_
  | refine u_is_kind ?_ ?_
  | refine u_is_journal ?_ ?_
  | refine u_check_journal ?_ ?_
  | refine u_fresh ?_ ?_ ?_
  | refine u_last_behind ?_ ?_ ?_
  | refine u_last_versions ?_ ?_ ?_
  | refine u_rows_behind ?_ ?_ ?_
  | refine u_source_rows ?_ ?_ ?_
  | refine u_is_version ?_ ?_ ?_ ?_ ?_
  | refine u_is_plates ?_ ?_ ?_ ?_
  | refine u_check_plates ?_ ?_ ?_ ?_)
local macro_rules | `(tactic| walk_at "zs1") => `(tactic| first
  | walk_at "zq"
  | walk_at "zu"
  | walk_at "zb")
local macro_rules | `(tactic| walk_at "zs") => `(tactic| repeat walk_at "zs1")
/-- derived_marks -/
def sp_derived_marks : ASp := fun ds M P => ∃ (rd : List (Tp Int)) (ps : List Int), ds = [dy rd, dy (Tp.mk ps), dy (0 : Int)] ∧ rd.length ≤ 400 ∧ ps.length ≤ 8 ∧ (∀ row, row ∈ rd → row.l.length ≤ 3) ∧ P (dy (Dc.mk (clo rd ps))) M
theorem sc_derived_marks : FnScope ["rows", "plates", "first", "marks", "deed", "row", "version"] ["rows", "plates", "first"] (defScope s_derived_marks) := ⟨rfl, rfl, rfl, by decide +kernel, rfl, by decide +kernel, by decide +kernel⟩
theorem ok_derived_marks {f : Addr} {fd : FuncData} (F : FunD c.K "derived_marks" "derived_marks" (defArgs s_derived_marks) (defBody s_derived_marks) (defScope s_derived_marks) [.int 0] [] f fd) (T : Tb mg) (X : Tx c)  :
    FnOk P w c.K mg base CX0 1 f fd ["rows", "plates", "first"] (spOf c 3 0 sp_derived_marks) := by
  refine Zq.okD F sc_derived_marks (fun vs H Q E h => ?_) (fun cdv A outer s H vs Q E hr h => ?_)
  · obtain ⟨as, F, ds, M, P, _, hn, _, rd, _⟩ := h
    rw [rd.length, hn]; rfl
  · have hu1 : (A.deeper (envOfC "derived_marks" (defScope s_derived_marks) s.heap.objs.size f cdv)).units + 1 < cLine := hu_of hr
    have hu8 : (A.deeper (envOfC "derived_marks" (defScope s_derived_marks) s.heap.objs.size f cdv)).units + 8 < cLine := by have := hr.un; omega
    have hu16 : (A.deeper (envOfC "derived_marks" (defScope s_derived_marks) s.heap.objs.size f cdv)).units + 16 < cLine := by have := hr.un; omega
    have hu64 : (A.deeper (envOfC "derived_marks" (defScope s_derived_marks) s.heap.objs.size f cdv)).units + 64 < cLine := by have := hr.un; omega
    have hu65 : (A.deeper (envOfC "derived_marks" (defScope s_derived_marks) s.heap.objs.size f cdv)).units + 65 < cLine := by have := hr.un; omega
    refine ⟨_, (pss_cons (ps_set (i := 3) sc_derived_marks.nd rfl (Or.inr rfl) (pe_dc (own := [("version", 6)]) (g := (gName 6)) rfl sc_derived_marks.nd (pi_tup (pv 1)) (blkOk_by (N := ["rows", "plates", "first", "marks", "deed", "row", "version"]) (sc := defScope s_derived_marks) (by decide +kernel)) (fun _ _ _ _ _ => (pg_name (i := 6) sc_derived_marks.nd rfl (Or.inl rfl))) (fun _ _ _ _ _ => pts_nil) (fun _ _ _ _ _ => (pv 6)) (fun _ _ _ _ _ => pe_bl)))
        (pss_cons (ps_for PassesOwn.never rfl (Zr.pi_enumK false rfl T.b_enumerate (pa_cons (pv 0) pa_nil) (pk_cons (pv 2) pk_nil)) (pg_tup rfl (pgs_cons (pg_name (i := 4) sc_derived_marks.nd rfl (Or.inl rfl)) (pgs_cons (pg_name (i := 5) sc_derived_marks.nd rfl (Or.inl rfl)) pgs_nil))) (pss_one (ps_if (pt_val (pe_callB (r := rAll c.K) (cr_all rfl) (by rfl) T.b_all (by decide +kernel) (pa_cons (pe_lc (own := [("version", 6)]) (g := (gName 6)) rfl sc_derived_marks.nd (pi_tup (pv 5)) (blkOk_by (N := ["rows", "plates", "first", "marks", "deed", "row", "version"]) (sc := defScope s_derived_marks) (by decide +kernel)) (fun _ _ _ _ _ => (pg_name (i := 6) sc_derived_marks.nd rfl (Or.inl rfl))) (fun _ _ _ _ _ => pts_nil) (fun _ _ _ _ _ => (pe_cmp (pc_din hu1 (pv 6) (pv 3))))) pa_nil))) (pss_one (ps_dput hu1 (pv 3) (pv 4) pe_bl rfl)) pss_nil)))
        (pss_one (ps_ret (pv 3))))), ?_⟩
    refine body_ok h (by decide) fun ds M R hds hM hS => ?_
    obtain ⟨rd, ps, rfl, hr, hp, h3, hP⟩ := hS
    obtain rfl := List.length_eq_zero_iff.mp hM
    show WS c 0 _ [some (dy rd), some (dy (Tp.mk ps)), some (dy (0 : Int)), none, none, none, none] [] _ _
    walk_at "zs"
    refine we_dcF (β := Int) (γ := Bool) [6] (fun v => v) (fun _ => true) (fun t ht => ht) ?_
    refine wi_tup (α := Int) ?_
    walk_at "zs"
    refine ⟨⟨ps⟩, rfl, rfl, ps, rfl, by omega, fun y hy acc => ?_, ?_⟩
    · walk_at "zs"
      refine ⟨rfl, ?_⟩
      walk_at "zs"
      refine ⟨rfl, ?_⟩
      walk_at "zs"
      exact ⟨rfl, rfl⟩
    · walk_at "zs"
      refine ws_fold (β := Int × Tp Int) ([4] ++ [5]) cstep (plD ps) (fun _ => [some (dy rd), some (dy (Tp.mk ps)), some (dy (0 : Int)), some (dy (MR.mk 0)), none, none, none]) (fun s => [cDic s]) (fun pre s => Keys1 s ∧ s.length ≤ 8 + pre.length) ?_
      refine wi_enumLK (α := Tp Int) ?_
      walk_at "zs"
      refine ⟨_, rfl, ?_⟩
      walk_at "zs"
      refine ⟨0, rfl, by decide, by decide, ?_⟩
      rw [numsF0]
      refine ⟨nums rd, rfl, ⟨plD_keys ps, by have := plD_len ps; omega⟩, by walk_at "zcut", fun pre y post s e hs hJ => ?_, fun s hs hJ => ?_⟩
      · obtain ⟨h1, h2, h4, hm⟩ := nums_split e
        walk_at "zs"
        refine we_lcM (β := Int) (γ := Bool) [6] (fun v => memD s v) (fun t ht => ht) (by walk_at "zok") ?_
        refine wi_tup (α := Int) ?_
        walk_at "zs"
        refine ⟨_, rfl, rfl, y.2.l, rfl, by have := h3 _ hm; omega, fun v hv acc => ?_, ?_⟩
        · walk_at "zs"
          refine ⟨rfl, ?_⟩
          refine we_dinM (β := Bool) ?_
          walk_at "zs"
          exact ⟨rfl, rfl⟩
        · walk_at "zs"
          rw [List.all_map]
          have e9 : (y.2.l.all (id ∘ fun v => memD s v)) = y.2.l.all (fun v => memD s v) := rfl
          rw [e9]
          refine ⟨fun q => ?_, fun q => ?_⟩
          · have e8 : cstep s y = dput s y.1 true := by unfold cstep; rw [if_pos q]
            rw [e8]
            walk_at "zs"
            refine ⟨hJ.1, by have := hJ.2; omega, ⟨keys1_put hJ.1 _ _, ?_⟩, by walk_at "zcut"⟩
            have := dput_len s y.1 true
            have := hJ.2
            rw [List.length_append, List.length_cons, List.length_nil]; omega
          · have e8 : cstep s y = s := by unfold cstep; rw [if_neg (by rw [q]; decide)]
            rw [e8]
            walk_at "zs"
            refine ⟨⟨hJ.1, ?_⟩, by walk_at "zcut"⟩
            have := hJ.2
            rw [List.length_append, List.length_cons, List.length_nil]; omega
      · refine ws_retD (β := Bool) ?_
        walk_at "zs"
        exact ⟨_, Nat.zero_le _, rfl, Free.k _ _, trivial, by rw [hs]; exact hP⟩

theorem u_derived_marks {M : Mem} {P : Dy → Mem → Prop} {rd : List (Tp Int)} {ps : List Int} (h : P (dy (Dc.mk (clo rd ps))) M) (h1 : rd.length ≤ 400) (h2 : ps.length ≤ 8) (h3 : ∀ row, row ∈ rd → row.l.length ≤ 3) : sp_derived_marks [dy rd, dy (Tp.mk ps), dy (0 : Int)] M P := ⟨rd, ps, rfl, h1, h2, h3, h⟩
local macro_rules | `(tactic| walk_at "zu") => `(tactic| first
  | refine u_is_integer ?_
  | refine u_is_integer_th ?_
  | refine u_is_number_below ?_ ?_
  | refine u_is_number_below_th ?_
  | refine u_is_bits ?_
  | refine u_is_lot ?_ ?_
  | refine u_is_lot_of_cells ?_ ?_ ?_
  | refine u_is_kind ?_ ?_
  | refine u_is_journal ?_ ?_
  | refine u_check_journal ?_ ?_
  | refine u_fresh ?_ ?_ ?_
  | refine u_last_behind ?_ ?_ ?_
  | refine u_last_versions ?_ ?_ ?_
  | refine u_rows_behind ?_ ?_ ?_
  | refine u_source_rows ?_ ?_ ?_
  | refine u_is_version ?_ ?_ ?_ ?_ ?_
  | refine u_is_plates ?_ ?_ ?_ ?_
  | refine u_check_plates ?_ ?_ ?_ ?_
  | refine u_derived_marks ?_ ?_ ?_ ?_)
local macro_rules | `(tactic| walk_at "zs1") => `(tactic| first
  | walk_at "zq"
  | walk_at "zu"
  | walk_at "zb")
local macro_rules | `(tactic| walk_at "zs") => `(tactic| repeat walk_at "zs1")
end
end K03
end
section
set_option Elab.async false
set_option linter.all false
set_option maxRecDepth 100000
set_option maxHeartbeats 4000000
namespace K03
open PySem PySem.Spec PyProof.Rows L2 Zq K02
open C8 (Cal Mak pe_c pe_mk pe_gc)
local macro_rules | `(tactic| walk_at "zq") => `(tactic| first
  | with_reducible refine ws_seq ?_
  | with_reducible refine ws_asg ?_
  | (with_reducible apply ws_asgG)
  | with_reducible refine ws_next ?_
  | with_reducible refine ws_ret ?_
  | with_reducible refine ws_if ?_
  | with_reducible refine ws_dput (β := Bool) ?_
  | with_reducible refine ws_drop (te := tCall _ _ _ _) ?_
  | with_reducible refine as_dy ?_
  | ((with_reducible apply we_var); focus rfl)
  | with_reducible refine we_int ?_
  | with_reducible refine we_bl ?_
  | with_reducible refine we_non ?_
  | with_reducible refine we_ty ?_
  | with_reducible refine we_str ?_
  | with_reducible refine we_op2 ?_
  | with_reducible refine we_neg ?_
  | with_reducible refine we_andV ?_
  | with_reducible refine we_orV ?_
  | with_reducible refine we_notV ?_
  | with_reducible refine we_chain ?_
  | with_reducible refine we_if ?_
  | with_reducible refine we_cb ?_
  | with_reducible refine tup_pair ?_
  | with_reducible refine tup_three ?_
  | with_reducible refine tup_nil ?_
  | with_reducible refine we_call ?_
  | with_reducible refine we_callD ?_
  | with_reducible refine we_tup ?_
  | refine we_cells (Tx.cl (by assumption)) (Tx.nc (by assumption)) ?_
  | refine we_kinds (Tx.cl (by assumption)) (Tx.nk (by assumption)) ?_
  | with_reducible refine wt_test ?_
  | with_reducible refine wt_B ?_
  | with_reducible refine wt_not ?_
  | with_reducible refine wt_and ?_
  | with_reducible refine wt_or ?_
  | with_reducible refine wt_yes ?_
  | with_reducible refine wa_cons ?_
  | with_reducible refine wa_nil ?_
  | with_reducible refine rr_II ?_
  | with_reducible refine rr_isTrue ?_
  | with_reducible refine rr_notTrue ?_
  | with_reducible refine rr_isN0 ?_
  | with_reducible refine rr_notN0 ?_
  | with_reducible refine rr_isN ?_
  | with_reducible refine rr_notN ?_
  | with_reducible refine rr_IB ?_
  | with_reducible refine rr_eqI ?_
  | with_reducible refine rr_neI ?_
  | with_reducible refine rr_eqB ?_
  | with_reducible refine rr_ixP0 ?_
  | with_reducible refine rr_ixP1 ?_
  | with_reducible refine rr_ix30 ?_
  | with_reducible refine rr_ix31 ?_
  | with_reducible refine rr_ix32 ?_
  | with_reducible refine rr_leK ?_
  | refine rr_eqD ?_
  | refine rr_neD ?_
  | with_reducible refine rr_inT ?_
  | with_reducible refine rr_ninT ?_
  | with_reducible refine rr_inL ?_
  | with_reducible refine rr_ninL ?_
  | with_reducible refine rc_isi kit_ii ?_
  | with_reducible refine rc_isi kit_ib ?_
  | with_reducible refine rc_isi kit_bb ?_
  | with_reducible refine rc_isi kit_tt ?_
  | refine rc_isInt (Tx.isi (by assumption)) ?_
  | refine rc_isBl (Tx.isi (by assumption)) ?_
  | refine rc_isTup (Tx.isi (by assumption)) ?_
  | refine rc_isStr (Tx.isi (by assumption)) ?_
  | with_reducible refine rc_lenL ?_
  | with_reducible refine rc_lenT ?_
  | with_reducible refine rc_lenP ?_
  | with_reducible refine rc_tupL ?_
  | refine rc_lenM rfl ?_
  | refine rc_tupM rfl ?_
  | ((with_reducible apply rr_inM); focus rfl)
  | ((with_reducible apply rr_ninM); focus rfl)
  | with_reducible refine rc_lstTC ?_
  | with_reducible apply wg_setM
  | refine ex_l rfl ?_
  | refine ex_d rfl ?_
  | with_reducible refine rc_int ?_
  | with_reducible refine rc_abs ?_
  | with_reducible refine rc_min2 ?_
  | with_reducible refine rc_all ?_
  | with_reducible refine rc_any ?_
  | with_reducible refine wg_name ?_
  | (apply wg_tup2)
  | (apply wg_tup3))
local macro_rules | `(tactic| walk_at "zqs") => `(tactic| repeat walk_at "zq")
local macro_rules | `(tactic| walk_at "zok1") => `(tactic| first
  | exact trivial
  | exact dy_ok _ _
  | exact cLst_ok _ _
  | exact cDic_ok _ _
  | exact hand_ok _
  | exact handX_ok
  | exact okM_nil
  | exact okE_nil
  | exact okDs_nil
  | refine okM_cons ?_ ?_
  | refine okDs_cons ?_ ?_
  | refine okE_none ?_
  | refine okE_cons ?_ ?_
  | exact mr_ok (Nat.le_of_ble_eq_true rfl)
  | exact Free.l _ _
  | exact Free.k _ _
  | exact Free.ok _ _
  | exact Frg.refl _
  | exact Frg.nil
  | refine Frg.same ?_
  | refine Frg.drop ?_)
local macro_rules | `(tactic| walk_at "zok") => `(tactic| repeat walk_at "zok1")
local macro_rules | `(tactic| walk_at "zcut") => `(tactic| exact Cut.mk (by walk_at "zok") (by walk_at "zok") (by walk_at "zok") rfl)
local macro_rules | `(tactic| walk_at "zb") => `(tactic| first
  | with_reducible refine bt_tt ?_
  | with_reducible refine bt_ff ?_
  | with_reducible refine bt_nt ?_
  | with_reducible refine bt_nf ?_
  | with_reducible refine bt_ft ?_
  | with_reducible refine bt_tf ?_
  | with_reducible refine bt_nt' ?_
  | with_reducible refine bt_nf' ?_
  | (with_reducible refine bt_t ?_ ?_
     focus (first | rfl | assumption))
  | (with_reducible refine bt_f ?_ ?_
     focus (first | rfl | assumption))
  | (with_reducible refine bt_t' ?_ ?_
     focus (first | rfl | assumption))
  | (with_reducible refine bt_f' ?_ ?_
     focus (first | rfl | assumption))
  | (refine ca5 ?_ ?_ ?_ ?_ ?_
     focus (first | rfl | decide)
     focus (first | exact Nat.zero_le _ | exact Nat.le_of_ble_eq_true rfl)
     focus (walk_at "zok"; done)
     focus (walk_at "zok"; done))
  | (refine ca3 ?_ ?_ ?_
     focus (walk_at "zok"; done)
     focus (walk_at "zok"; done)))

local macro_rules | `(tactic| walk_at "zu") => `(tactic| first
  | refine u_is_integer ?_
  | refine u_is_integer_th ?_
  | refine u_is_number_below ?_ ?_
  | refine u_is_number_below_th ?_
  | refine u_is_bits ?_
  | refine u_is_lot ?_ ?_
  | refine u_is_lot_of_cells ?_ ?_ ?_
  | refine u_is_kind ?_ ?_
  | refine u_is_journal ?_ ?_
  | refine u_check_journal ?_ ?_
  | refine u_fresh ?_ ?_ ?_
  | refine u_last_behind ?_ ?_ ?_
  | refine u_last_versions ?_ ?_ ?_
  | refine u_rows_behind ?_ ?_ ?_
  | refine u_source_rows ?_ ?_ ?_
  | refine u_is_version ?_ ?_ ?_ ?_ ?_
  | refine u_is_plates ?_ ?_ ?_ ?_
  | refine u_check_plates ?_ ?_ ?_ ?_
  | refine u_derived_marks ?_ ?_ ?_ ?_)
local macro_rules | `(tactic| walk_at "zs1") => `(tactic| first
  | walk_at "zq"
  | walk_at "zu"
  | walk_at "zb")
local macro_rules | `(tactic| walk_at "zs") => `(tactic| repeat walk_at "zs1")
section
variable {P : Program} {w : World} {c : Cc} {mg : Str → Option Value} {base : Heap}
/-- _law_is_int -/
def sp__law_is_int : ASp := fun ds M P => ∃ (x : Th) (a b : Int), ds = [dy x, dy a, dy b] ∧ P (dy (isIn a b x)) M
theorem sc__law_is_int : FnScope ["_law_thing", "_law_least", "_law_most"] ["_law_thing", "_law_least", "_law_most"] (defScope s__law_is_int) := ⟨rfl, rfl, rfl, by decide +kernel, rfl, by decide +kernel, by decide +kernel⟩
theorem ok__law_is_int {f : Addr} {fd : FuncData} (F : Fun c.K "_law_is_int" "_law_is_int" s__law_is_int f fd) (T : Tb mg) (X : Tx c)  :
    FnOk P w c.K mg base CX0 1 f fd ["_law_thing", "_law_least", "_law_most"] (spOf c 3 0 sp__law_is_int) := by
  refine F.ok sc__law_is_int (fun vs H Q E h => ?_) (fun cdv A outer s H vs Q E hr h => ?_)
  · obtain ⟨as, F, ds, M, P, _, hn, _, rd, _⟩ := h
    rw [rd.length, hn]; rfl
  · have hu1 : (A.deeper (envOfC "_law_is_int" (defScope s__law_is_int) s.heap.objs.size f cdv)).units + 1 < cLine := hu_of hr
    have hu8 : (A.deeper (envOfC "_law_is_int" (defScope s__law_is_int) s.heap.objs.size f cdv)).units + 8 < cLine := by have := hr.un; omega
    have hu16 : (A.deeper (envOfC "_law_is_int" (defScope s__law_is_int) s.heap.objs.size f cdv)).units + 16 < cLine := by have := hr.un; omega
    have hu64 : (A.deeper (envOfC "_law_is_int" (defScope s__law_is_int) s.heap.objs.size f cdv)).units + 64 < cLine := by have := hr.un; omega
    have hu65 : (A.deeper (envOfC "_law_is_int" (defScope s__law_is_int) s.heap.objs.size f cdv)).units + 65 < cLine := by have := hr.un; omega
    refine ⟨_, (pss_one (ps_ret (pe_and (pe_callB (r := rIsi c.K) call_isi (by rfl) T.b_isinstance (by decide +kernel) (pa_cons (pv 0) (pa_cons (pe_bltn (v := .ty "int") rfl T.b_int (by decide +kernel) rfl) pa_nil))) (pe_and (pe_not (pe_callB (r := rIsi c.K) call_isi (by rfl) T.b_isinstance (by decide +kernel) (pa_cons (pv 0) (pa_cons (pe_bltn (v := .ty "bool") rfl T.b_bool (by decide +kernel) rfl) pa_nil)))) (pe_one (pe_chain op_le op_le (pv 1) (pv 0) (pv 2))))))), ?_⟩
    refine body_ok h (by decide) fun ds M R hds hM hS => ?_
    obtain ⟨x, a, b, rfl, hP⟩ := hS
    obtain rfl := List.length_eq_zero_iff.mp hM
    show WS c 0 _ [some (dy x), some (dy a), some (dy b)] [] _ _
    cases x with
    | int i =>
      rw [th_int]
      walk_at "zs"
      have hP' : R (dy (decide (a ≤ i) && decide (i ≤ b))) [] := hP
      refine ⟨fun h => ?_, fun h => ?_⟩
      · walk_at "zs"
        rw [h] at hP'
        exact hP'
      · walk_at "zs"
        rw [h] at hP'
        exact hP'
    | _ =>
      walk_at "zs"
      exact hP

theorem u__law_is_int {M : Mem} {P : Dy → Mem → Prop} {x a b : Int} (h : P (dy true) M) (h1 : a ≤ x) (h2 : x ≤ b) : sp__law_is_int [dy x, dy a, dy b] M P := ⟨.int x, a, b, by rw [th_int], by show P (dy (decide (a ≤ x) && decide (x ≤ b))) M; rw [decide_eq_true h1, decide_eq_true h2]; exact h⟩
local macro_rules | `(tactic| walk_at "zu") => `(tactic| first
  | refine u_is_integer ?_
  | refine u_is_integer_th ?_
  | refine u_is_number_below ?_ ?_
  | refine u_is_number_below_th ?_
  | refine u_is_bits ?_
  | refine u_is_lot ?_ ?_
  | refine u_is_lot_of_cells ?_ ?_ ?_
  | refine u_is_kind ?_ ?_
  | refine u_is_journal ?_ ?_
  | refine u_check_journal ?_ ?_
  | refine u_fresh ?_ ?_ ?_
  | refine u_last_behind ?_ ?_ ?_
  | refine u_last_versions ?_ ?_ ?_
  | refine u_rows_behind ?_ ?_ ?_
  | refine u_source_rows ?_ ?_ ?_
  | refine u_is_version ?_ ?_ ?_ ?_ ?_
  | refine u_is_plates ?_ ?_ ?_ ?_
  | refine u_check_plates ?_ ?_ ?_ ?_
  | refine u_derived_marks ?_ ?_ ?_ ?_
  | refine u__law_is_int ?_ ?_ ?_)
local macro_rules | `(tactic| walk_at "zs1") => `(tactic| first
  | walk_at "zq"
  | walk_at "zu"
  | walk_at "zb")
local macro_rules | `(tactic| walk_at "zs") => `(tactic| repeat walk_at "zs1")
theorem u__law_is_int_th {M : Mem} {P : Dy → Mem → Prop} {x : Th} {a b : Int} (h : P (dy (isIn a b x)) M) : sp__law_is_int [dy x, dy a, dy b] M P := ⟨x, a, b, rfl, h⟩
local macro_rules | `(tactic| walk_at "zu") => `(tactic| first
  | refine u_is_integer ?_
  | refine u_is_integer_th ?_
  | refine u_is_number_below ?_ ?_
  | refine u_is_number_below_th ?_
  | refine u_is_bits ?_
  | refine u_is_lot ?_ ?_
  | refine u_is_lot_of_cells ?_ ?_ ?_
  | refine u_is_kind ?_ ?_
  | refine u_is_journal ?_ ?_
  | refine u_check_journal ?_ ?_
  | refine u_fresh ?_ ?_ ?_
  | refine u_last_behind ?_ ?_ ?_
  | refine u_last_versions ?_ ?_ ?_
  | refine u_rows_behind ?_ ?_ ?_
  | refine u_source_rows ?_ ?_ ?_
  | refine u_is_version ?_ ?_ ?_ ?_ ?_
  | refine u_is_plates ?_ ?_ ?_ ?_
  | refine u_check_plates ?_ ?_ ?_ ?_
  | refine u_derived_marks ?_ ?_ ?_ ?_
  | refine u__law_is_int ?_ ?_ ?_
  | refine u__law_is_int_th ?_)
local macro_rules | `(tactic| walk_at "zs1") => `(tactic| first
  | walk_at "zq"
  | walk_at "zu"
  | walk_at "zb")
local macro_rules | `(tactic| walk_at "zs") => `(tactic| repeat walk_at "zs1")
/-- _law_flag -/
def sp__law_flag : ASp := fun ds M P => ∃ x y : Bool, ds = [dy x, dy y] ∧ P (dy (decide (x = y))) M
theorem sc__law_flag : FnScope ["_law_told", "_law_due"] ["_law_told", "_law_due"] (defScope s__law_flag) := ⟨rfl, rfl, rfl, by decide +kernel, rfl, by decide +kernel, by decide +kernel⟩
theorem ok__law_flag {f : Addr} {fd : FuncData} (F : Fun c.K "_law_flag" "_law_flag" s__law_flag f fd) (T : Tb mg) (X : Tx c)  :
    FnOk P w c.K mg base CX0 1 f fd ["_law_told", "_law_due"] (spOf c 2 0 sp__law_flag) := by
  refine F.ok sc__law_flag (fun vs H Q E h => ?_) (fun cdv A outer s H vs Q E hr h => ?_)
  · obtain ⟨as, F, ds, M, P, _, hn, _, rd, _⟩ := h
    rw [rd.length, hn]; rfl
  · have hu1 : (A.deeper (envOfC "_law_flag" (defScope s__law_flag) s.heap.objs.size f cdv)).units + 1 < cLine := hu_of hr
    have hu8 : (A.deeper (envOfC "_law_flag" (defScope s__law_flag) s.heap.objs.size f cdv)).units + 8 < cLine := by have := hr.un; omega
    have hu16 : (A.deeper (envOfC "_law_flag" (defScope s__law_flag) s.heap.objs.size f cdv)).units + 16 < cLine := by have := hr.un; omega
    have hu64 : (A.deeper (envOfC "_law_flag" (defScope s__law_flag) s.heap.objs.size f cdv)).units + 64 < cLine := by have := hr.un; omega
    have hu65 : (A.deeper (envOfC "_law_flag" (defScope s__law_flag) s.heap.objs.size f cdv)).units + 65 < cLine := by have := hr.un; omega
    refine ⟨_, (pss_one (ps_ret (pe_and (pe_callB (r := rIsi c.K) call_isi (by rfl) T.b_isinstance (by decide +kernel) (pa_cons (pv 0) (pa_cons (pe_bltn (v := .ty "bool") rfl T.b_bool (by decide +kernel) rfl) pa_nil))) (pe_one (pe_cmpR op_eq (pv 0) (pv 1) (nomark _)))))), ?_⟩
    refine body_ok h (by decide) fun ds M R hds hM hS => ?_
    obtain ⟨x, y, rfl, hP⟩ := hS
    obtain rfl := List.length_eq_zero_iff.mp hM
    show WS c 0 _ [some (dy x), some (dy y)] [] _ _
    walk_at "zs"
    exact hP

theorem u__law_flag {M : Mem} {P : Dy → Mem → Prop} {x y : Bool} (h : P (dy (decide (x = y))) M) : sp__law_flag [dy x, dy y] M P := ⟨x, y, rfl, h⟩
local macro_rules | `(tactic| walk_at "zu") => `(tactic| first
  | refine u_is_integer ?_
  | refine u_is_integer_th ?_
  | refine u_is_number_below ?_ ?_
  | refine u_is_number_below_th ?_
  | refine u_is_bits ?_
  | refine u_is_lot ?_ ?_
  | refine u_is_lot_of_cells ?_ ?_ ?_
  | refine u_is_kind ?_ ?_
  | refine u_is_journal ?_ ?_
  | refine u_check_journal ?_ ?_
  | refine u_fresh ?_ ?_ ?_
  | refine u_last_behind ?_ ?_ ?_
  | refine u_last_versions ?_ ?_ ?_
  | refine u_rows_behind ?_ ?_ ?_
  | refine u_source_rows ?_ ?_ ?_
  | refine u_is_version ?_ ?_ ?_ ?_ ?_
  | refine u_is_plates ?_ ?_ ?_ ?_
  | refine u_check_plates ?_ ?_ ?_ ?_
  | refine u_derived_marks ?_ ?_ ?_ ?_
  | refine u__law_is_int ?_ ?_ ?_
  | refine u__law_is_int_th ?_
  | refine u__law_flag ?_)
local macro_rules | `(tactic| walk_at "zs1") => `(tactic| first
  | walk_at "zq"
  | walk_at "zu"
  | walk_at "zb")
local macro_rules | `(tactic| walk_at "zs") => `(tactic| repeat walk_at "zs1")
/-- _law_history -/
def sp__law_history : ASp := fun ds M P => ∃ (n : Int) (ks : List Zq.Kind) (js : List Int), ds = [dy n, dy (Tp.mk ks), dy (Tp.mk js)] ∧ KsOk n ks ∧ JOk ks js ∧ P (dy (T3.mk (hist n ks js).wr (hist n ks js).rd (hist n ks js).la)) M
theorem sc__law_history : FnScope ["_law_cells", "_law_kinds_here", "_law_journal_here", "_law_last", "_law_written", "_law_read", "_law_deed", "_law_number", "_law_cell", "_law_reads", "_law_one"] ["_law_cells", "_law_kinds_here", "_law_journal_here"] (defScope s__law_history) := ⟨rfl, rfl, rfl, by decide +kernel, rfl, by decide +kernel, by decide +kernel⟩
theorem ok__law_history {f : Addr} {fd : FuncData} (F : Fun c.K "_law_history" "_law_history" s__law_history f fd) (T : Tb mg) (X : Tx c)  :
    FnOk P w c.K mg base CX0 1 f fd ["_law_cells", "_law_kinds_here", "_law_journal_here"] (spOf c 3 0 sp__law_history) := by
  refine F.ok sc__law_history (fun vs H Q E h => ?_) (fun cdv A outer s H vs Q E hr h => ?_)
  · obtain ⟨as, F, ds, M, P, _, hn, _, rd, _⟩ := h
    rw [rd.length, hn]; rfl
  · have hu1 : (A.deeper (envOfC "_law_history" (defScope s__law_history) s.heap.objs.size f cdv)).units + 1 < cLine := hu_of hr
    have hu8 : (A.deeper (envOfC "_law_history" (defScope s__law_history) s.heap.objs.size f cdv)).units + 8 < cLine := by have := hr.un; omega
    have hu16 : (A.deeper (envOfC "_law_history" (defScope s__law_history) s.heap.objs.size f cdv)).units + 16 < cLine := by have := hr.un; omega
    have hu64 : (A.deeper (envOfC "_law_history" (defScope s__law_history) s.heap.objs.size f cdv)).units + 64 < cLine := by have := hr.un; omega
    have hu65 : (A.deeper (envOfC "_law_history" (defScope s__law_history) s.heap.objs.size f cdv)).units + 65 < cLine := by have := hr.un; omega
    refine ⟨_, (pss_cons (ps_set (i := 3) sc__law_history.nd rfl (Or.inr rfl) (pe_lc (own := [("_law_cell", 8)]) (g := (gName 8)) rfl sc__law_history.nd (pi_range1 rfl T.b_range (pa_cons (pv 0) pa_nil)) (blkOk_by (N := ["_law_cells", "_law_kinds_here", "_law_journal_here", "_law_last", "_law_written", "_law_read", "_law_deed", "_law_number", "_law_cell", "_law_reads", "_law_one"]) (sc := defScope s__law_history) (by decide +kernel)) (fun _ _ _ _ _ => (pg_name (i := 8) sc__law_history.nd rfl (Or.inl rfl))) (fun _ _ _ _ _ => pts_nil) (fun _ _ _ _ _ => (pe_op op_sub (pe_un un_neg pe_int) (pv 8)))))
        (pss_cons (ps_set (i := 4) sc__law_history.nd rfl (Or.inl rfl) (pe_lst pa_nil))
        (pss_cons (ps_set (i := 5) sc__law_history.nd rfl (Or.inl rfl) (pe_lst pa_nil))
        (pss_cons (ps_for PassesOwn.never rfl (Zr.pi_enumT rfl T.b_enumerate (pa_cons (pv 2) pa_nil)) (pg_tup rfl (pgs_cons (pg_name (i := 6) sc__law_history.nd rfl (Or.inl rfl)) (pgs_cons (pg_name (i := 7) sc__law_history.nd rfl (Or.inl rfl)) pgs_nil))) (pss_cons (ps_asg (pe_ix (r := rIxT c.K) ix_tup (pv 1) (pv 7) (fun _ _ => rfl)) (pg_tup rfl (pgs_cons (pg_name (i := 8) sc__law_history.nd rfl (Or.inl rfl)) (pgs_cons (pg_name (i := 9) sc__law_history.nd rfl (Or.inl rfl)) pgs_nil))))
        (pss_cons (ps_expr (pe_bm PySem.F.plainAttrs_list PySem.F.slot_list_append PySem.F.type_list_append mt_append (pv 4) (pa_cons (pv 8) pa_nil)))
        (pss_cons (ps_expr (pe_bm PySem.F.plainAttrs_list PySem.F.slot_list_append PySem.F.type_list_append mt_append (pv 5) (pa_cons (pe_callTy (r := Zq.rTup c.K) call_tuple_of (by rfl) T.b_tuple (by decide +kernel) (pa_cons (pe_lc (own := [("_law_one", 10)]) (g := (gName 10)) rfl sc__law_history.nd (pi_tup (pv 9)) (blkOk_by (N := ["_law_cells", "_law_kinds_here", "_law_journal_here", "_law_last", "_law_written", "_law_read", "_law_deed", "_law_number", "_law_cell", "_law_reads", "_law_one"]) (sc := defScope s__law_history) (by decide +kernel)) (fun _ _ _ _ _ => (pg_name (i := 10) sc__law_history.nd rfl (Or.inl rfl))) (fun _ _ _ _ _ => pts_nil) (fun _ _ _ _ _ => (pe_ix (r := rIxL c.K) ix_list (pv 3) (pv 10) (fun _ _ => rfl)))) pa_nil)) pa_nil)))
        (pss_one (ps_asg (pv 6) (pg_sub (pv 3) (pv 8) set_list)))))))
        (pss_one (ps_ret (pe_tup (pa_cons (pv 4) (pa_cons (pv 5) (pa_cons (pv 3) pa_nil)))))))))), ?_⟩
    refine body_ok h (by decide) fun ds M R hds hM hS => ?_
    obtain ⟨n, ks, js, rfl, hk, hj, hP⟩ := hS
    have n1 := hk.n1
    have n8 := hk.n8
    obtain rfl := List.length_eq_zero_iff.mp hM
    show WS c 0 _ [some (dy n), some (dy (Tp.mk ks)), some (dy (Tp.mk js)), none, none, none, none, none, none, none, none] [] _ _
    walk_at "zs"
    refine we_lcMC (β := Int) (γ := Int) [8] (fun i => -1 - i) (fun t ht => ht) ?_
    refine wi_range ?_
    walk_at "zs"
    refine ⟨n, rfl, by omega, by omega, rfl, upto n.toNat, rfl, by rw [upto_len]; omega, fun y hy acc => ?_, ?_⟩
    · walk_at "zs"
      refine ⟨rfl, ?_⟩
      walk_at "zs"
      exact ⟨rfl, rfl⟩
    walk_at "zs"
    refine we_lstC (α := Int) ?_
    walk_at "zs"
    refine ⟨[], rfl, Nat.zero_le _, ?_⟩
    walk_at "zs"
    refine we_lstC (α := Tp Int) ?_
    walk_at "zs"
    refine ⟨[], rfl, Nat.zero_le _, ?_⟩
    walk_at "zs"
    refine ws_fold (β := Int × Int) ([6] ++ [7]) (hstep ks) (hst0 n) (fun _ => [some (dy n), some (dy (Tp.mk ks)), some (dy (Tp.mk js)), some (dy (MR.mk 0)), some (dy (MR.mk 1)), some (dy (MR.mk 2)), none, none, none, none, none]) (fun s => [cLst s.la, cLst s.wr, cLst s.rd]) (fun pre s => HOk n pre.length s) ?_
    refine wi_enumT (α := Int) ?_
    walk_at "zs"
    refine ⟨⟨js⟩, rfl, nums js, rfl, hok0 _, by walk_at "zcut", fun pre y post s e hs hJ => ?_, fun s hs hJ => ?_⟩
    · obtain ⟨h1, h2, h3, hm⟩ := nums_split e
      have ok := hj.ok hk hm
      have pl : pre.length < js.length := h2
      have jl := hj.len
      have rl := hJ.rl
      have wl := hJ.wl
      have ll := hJ.ll
      walk_at "zs"
      refine rr_ixT (hj.at_ _ hm).1 (hj.get hm) ?_
      walk_at "zs"
      refine ws_app (α := Int) ?_
      walk_at "zs"
      refine ⟨by omega, ?_⟩
      walk_at "zs"
      refine ws_app (α := Tp Int) ?_
      walk_at "zs"
      refine we_lcM (β := Int) (γ := Int) [10] (fun r => s.la.getD r.toNat 0) (fun t ht => ht) (by walk_at "zok") ?_
      refine wi_tup (α := Int) ?_
      walk_at "zs"
      refine ⟨_, rfl, rfl, (kat ks y.2).2.l, rfl, by have := ok.len; omega, fun r hr acc => ?_, ?_⟩
      · walk_at "zs"
        refine ⟨rfl, ?_⟩
        walk_at "zs"
        have b := ok.r0 r hr
        refine rr_ixM (xs := s.la) rfl b.1 (getD_get (by omega)) ?_
        exact ⟨rfl, rfl⟩
      · walk_at "zs"
        refine ⟨by omega, ?_⟩
        walk_at "zs"
        refine ⟨ok.c0, ?_, ?_, by walk_at "zcut"⟩
        · have := ok.c1; have := ok.c0; omega
        · have := hok_step hJ ok
          rw [← h1] at this
          rw [List.length_append]; exact this
    · refine ws_retF ?_
      walk_at "zs"
      subst hs
      exact ⟨_, melt_3 ⟨Nat.zero_le _, rfl⟩ ⟨Nat.zero_le _, rfl⟩ ⟨Nat.zero_le _, rfl⟩, trivial, hP⟩

theorem u__law_history {M : Mem} {P : Dy → Mem → Prop} {n : Int} {ks : List Zq.Kind} {js : List Int} (h : P (dy (T3.mk (hist n ks js).wr (hist n ks js).rd (hist n ks js).la)) M) (h1 : KsOk n ks) (h2 : JOk ks js) : sp__law_history [dy n, dy (Tp.mk ks), dy (Tp.mk js)] M P := ⟨n, ks, js, rfl, h1, h2, h⟩
local macro_rules | `(tactic| walk_at "zu") => `(tactic| first
  | refine u_is_integer ?_
  | refine u_is_integer_th ?_
  | refine u_is_number_below ?_ ?_
  | refine u_is_number_below_th ?_
  | refine u_is_bits ?_
  | refine u_is_lot ?_ ?_
  | refine u_is_lot_of_cells ?_ ?_ ?_
  | refine u_is_kind ?_ ?_
  | refine u_is_journal ?_ ?_
  | refine u_check_journal ?_ ?_
  | refine u_fresh ?_ ?_ ?_
  | refine u_last_behind ?_ ?_ ?_
  | refine u_last_versions ?_ ?_ ?_
  | refine u_rows_behind ?_ ?_ ?_
  | refine u_source_rows ?_ ?_ ?_
  | refine u_is_version ?_ ?_ ?_ ?_ ?_
  | refine u_is_plates ?_ ?_ ?_ ?_
  | refine u_check_plates ?_ ?_ ?_ ?_
  | refine u_derived_marks ?_ ?_ ?_ ?_
  | refine u__law_is_int ?_ ?_ ?_
  | refine u__law_is_int_th ?_
  | refine u__law_flag ?_
  | refine u__law_history ?_ ?_ ?_)
local macro_rules | `(tactic| walk_at "zs1") => `(tactic| first
  | walk_at "zq"
  | walk_at "zu"
  | walk_at "zb")
local macro_rules | `(tactic| walk_at "zs") => `(tactic| repeat walk_at "zs1")
/-- _law_closure -/
def sp__law_closure : ASp := fun ds M P => ∃ (rd : List (Tp Int)) (ps : List Int), ds = [dy rd, dy (Tp.mk ps)] ∧ rd.length ≤ 400 ∧ ps.length ≤ 8 ∧ (∀ row, row ∈ rd → row.l.length ≤ 3) ∧ P (dy (Dc.mk (clo rd ps))) M
theorem sc__law_closure : FnScope ["_law_read", "_law_plates_here", "_law_found", "_law_deed", "_law_some", "_law_version", "_law_source"] ["_law_read", "_law_plates_here"] (defScope s__law_closure) := ⟨rfl, rfl, rfl, by decide +kernel, rfl, by decide +kernel, by decide +kernel⟩
theorem ok__law_closure {f : Addr} {fd : FuncData} (F : Fun c.K "_law_closure" "_law_closure" s__law_closure f fd) (T : Tb mg) (X : Tx c)  :
    FnOk P w c.K mg base CX0 1 f fd ["_law_read", "_law_plates_here"] (spOf c 2 0 sp__law_closure) := by
  refine F.ok sc__law_closure (fun vs H Q E h => ?_) (fun cdv A outer s H vs Q E hr h => ?_)
  · obtain ⟨as, F, ds, M, P, _, hn, _, rd, _⟩ := h
    rw [rd.length, hn]; rfl
  · have hu1 : (A.deeper (envOfC "_law_closure" (defScope s__law_closure) s.heap.objs.size f cdv)).units + 1 < cLine := hu_of hr
    have hu8 : (A.deeper (envOfC "_law_closure" (defScope s__law_closure) s.heap.objs.size f cdv)).units + 8 < cLine := by have := hr.un; omega
    have hu16 : (A.deeper (envOfC "_law_closure" (defScope s__law_closure) s.heap.objs.size f cdv)).units + 16 < cLine := by have := hr.un; omega
    have hu64 : (A.deeper (envOfC "_law_closure" (defScope s__law_closure) s.heap.objs.size f cdv)).units + 64 < cLine := by have := hr.un; omega
    have hu65 : (A.deeper (envOfC "_law_closure" (defScope s__law_closure) s.heap.objs.size f cdv)).units + 65 < cLine := by have := hr.un; omega
    refine ⟨_, (pss_cons (ps_set (i := 2) sc__law_closure.nd rfl (Or.inr rfl) (pe_callTy (r := Zq.rDictP c.K) (call_dictP rfl) (by rfl) T.b_dict (by decide +kernel) (pa_cons (pe_lc (own := [("_law_version", 5)]) (g := (gName 5)) rfl sc__law_closure.nd (pi_tup (pv 1)) (blkOk_by (N := ["_law_read", "_law_plates_here", "_law_found", "_law_deed", "_law_some", "_law_version", "_law_source"]) (sc := defScope s__law_closure) (by decide +kernel)) (fun _ _ _ _ _ => (pg_name (i := 5) sc__law_closure.nd rfl (Or.inl rfl))) (fun _ _ _ _ _ => pts_nil) (fun _ _ _ _ _ => (pe_tup (pa_cons (pv 5) (pa_cons pe_bl pa_nil))))) pa_nil)))
        (pss_cons (ps_for PassesOwn.never rfl (pi_enum rfl T.b_enumerate (pa_cons (pv 0) pa_nil)) (pg_tup rfl (pgs_cons (pg_name (i := 3) sc__law_closure.nd rfl (Or.inl rfl)) (pgs_cons (pg_name (i := 4) sc__law_closure.nd rfl (Or.inl rfl)) pgs_nil))) (pss_one (ps_if (pt_val (pe_callB (r := rAll c.K) (cr_all rfl) (by rfl) T.b_all (by decide +kernel) (pa_cons (pe_lc (own := [("_law_source", 6)]) (g := (gName 6)) rfl sc__law_closure.nd (pi_tup (pv 4)) (blkOk_by (N := ["_law_read", "_law_plates_here", "_law_found", "_law_deed", "_law_some", "_law_version", "_law_source"]) (sc := defScope s__law_closure) (by decide +kernel)) (fun _ _ _ _ _ => (pg_name (i := 6) sc__law_closure.nd rfl (Or.inl rfl))) (fun _ _ _ _ _ => pts_nil) (fun _ _ _ _ _ => (pe_cmp (pc_din hu1 (pv 6) (pv 2))))) pa_nil))) (pss_one (ps_dput hu1 (pv 2) (pv 3) pe_bl rfl)) pss_nil)))
        (pss_one (ps_ret (pv 2))))), ?_⟩
    refine body_ok h (by decide) fun ds M R hds hM hS => ?_
    obtain ⟨rd, ps, rfl, hr, hp, h3, hP⟩ := hS
    obtain rfl := List.length_eq_zero_iff.mp hM
    show WS c 0 _ [some (dy rd), some (dy (Tp.mk ps)), none, none, none, none, none] [] _ _
    walk_at "zs"
    refine we_lcM (β := Int) (γ := Int × Bool) [5] (fun v => (v, true)) (fun t ht => ht) trivial ?_
    refine wi_tup (α := Int) ?_
    walk_at "zs"
    refine ⟨⟨ps⟩, rfl, rfl, ps, rfl, by omega, fun y hy acc => ?_, ?_⟩
    · walk_at "zs"
      refine ⟨rfl, ?_⟩
      walk_at "zs"
      exact ⟨rfl, rfl⟩
    walk_at "zs"
    refine rc_dictC (β := Bool) ?_
    have e0 : dmerge (ps.map fun v => (v, true)) = plD ps := by unfold dmerge plD; rw [List.foldl_map]
    rw [e0]
    walk_at "zs"
    refine ws_fold (β := Int × Tp Int) ([3] ++ [4]) cstep (plD ps) (fun _ => [some (dy rd), some (dy (Tp.mk ps)), some (dy (MR.mk 0)), none, none, none, none]) (fun s => [cDic s]) (fun pre s => Keys1 s ∧ s.length ≤ 8 + pre.length) ?_
    refine wi_enumL (α := Tp Int) ?_
    walk_at "zs"
    refine ⟨_, rfl, nums rd, rfl, ⟨plD_keys ps, by have := plD_len ps; omega⟩, by walk_at "zcut", fun pre y post s e hs hJ => ?_, fun s hs hJ => ?_⟩
    · obtain ⟨h1, h2, h4, hm⟩ := nums_split e
      walk_at "zs"
      refine we_lcM (β := Int) (γ := Bool) [6] (fun v => memD s v) (fun t ht => ht) (by walk_at "zok") ?_
      refine wi_tup (α := Int) ?_
      walk_at "zs"
      refine ⟨_, rfl, rfl, y.2.l, rfl, by have := h3 _ hm; omega, fun v hv acc => ?_, ?_⟩
      · walk_at "zs"
        refine ⟨rfl, ?_⟩
        refine we_dinM (β := Bool) ?_
        walk_at "zs"
        exact ⟨rfl, rfl⟩
      · walk_at "zs"
        rw [List.all_map]
        have e9 : (y.2.l.all (id ∘ fun v => memD s v)) = y.2.l.all (fun v => memD s v) := rfl
        rw [e9]
        refine ⟨fun q => ?_, fun q => ?_⟩
        · have e8 : cstep s y = dput s y.1 true := by unfold cstep; rw [if_pos q]
          rw [e8]
          walk_at "zs"
          refine ⟨hJ.1, by have := hJ.2; omega, ⟨keys1_put hJ.1 _ _, ?_⟩, by walk_at "zcut"⟩
          have := dput_len s y.1 true
          have := hJ.2
          rw [List.length_append, List.length_cons, List.length_nil]; omega
        · have e8 : cstep s y = s := by unfold cstep; rw [if_neg (by rw [q]; decide)]
          rw [e8]
          walk_at "zs"
          refine ⟨⟨hJ.1, ?_⟩, by walk_at "zcut"⟩
          have := hJ.2
          rw [List.length_append, List.length_cons, List.length_nil]; omega
    · refine ws_retD (β := Bool) ?_
      walk_at "zs"
      exact ⟨_, Nat.zero_le _, rfl, Free.k _ _, trivial, by rw [hs]; exact hP⟩

theorem u__law_closure {M : Mem} {P : Dy → Mem → Prop} {rd : List (Tp Int)} {ps : List Int} (h : P (dy (Dc.mk (clo rd ps))) M) (h1 : rd.length ≤ 400) (h2 : ps.length ≤ 8) (h3 : ∀ row, row ∈ rd → row.l.length ≤ 3) : sp__law_closure [dy rd, dy (Tp.mk ps)] M P := ⟨rd, ps, rfl, h1, h2, h3, h⟩
local macro_rules | `(tactic| walk_at "zu") => `(tactic| first
  | refine u_is_integer ?_
  | refine u_is_integer_th ?_
  | refine u_is_number_below ?_ ?_
  | refine u_is_number_below_th ?_
  | refine u_is_bits ?_
  | refine u_is_lot ?_ ?_
  | refine u_is_lot_of_cells ?_ ?_ ?_
  | refine u_is_kind ?_ ?_
  | refine u_is_journal ?_ ?_
  | refine u_check_journal ?_ ?_
  | refine u_fresh ?_ ?_ ?_
  | refine u_last_behind ?_ ?_ ?_
  | refine u_last_versions ?_ ?_ ?_
  | refine u_rows_behind ?_ ?_ ?_
  | refine u_source_rows ?_ ?_ ?_
  | refine u_is_version ?_ ?_ ?_ ?_ ?_
  | refine u_is_plates ?_ ?_ ?_ ?_
  | refine u_check_plates ?_ ?_ ?_ ?_
  | refine u_derived_marks ?_ ?_ ?_ ?_
  | refine u__law_is_int ?_ ?_ ?_
  | refine u__law_is_int_th ?_
  | refine u__law_flag ?_
  | refine u__law_history ?_ ?_ ?_
  | refine u__law_closure ?_ ?_ ?_ ?_)
local macro_rules | `(tactic| walk_at "zs1") => `(tactic| first
  | walk_at "zq"
  | walk_at "zu"
  | walk_at "zb")
local macro_rules | `(tactic| walk_at "zs") => `(tactic| repeat walk_at "zs1")
/-- _law_lost -/
def sp__law_lost : ASp := fun ds M P => ∃ (wr : List Int) (rd : List (Tp Int)) (la ps : List Int), ds = [dy (T3.mk wr rd la), dy (Tp.mk ps)] ∧ rd.length ≤ 400 ∧ la.length ≤ 8 ∧ ps.length ≤ 8 ∧ (∀ row, row ∈ rd → row.l.length ≤ 3) ∧ P (dy (Tp.mk (lostOf rd la ps))) M
theorem sc__law_lost : FnScope ["_law_history_here", "_law_plates_here", "_law_found", "_law_cell", "_law_version"] ["_law_history_here", "_law_plates_here"] (defScope s__law_lost) := ⟨rfl, rfl, rfl, by decide +kernel, rfl, by decide +kernel, by decide +kernel⟩
theorem ok__law_lost {f : Addr} {fd : FuncData} (F : Fun c.K "_law_lost" "_law_lost" s__law_lost f fd) (T : Tb mg) (X : Tx c) (g__law_closure : Cal P w c.K mg base 1 "_law_closure" (spOf c 2 0 sp__law_closure) []) :
    FnOk P w c.K mg base CX0 2 f fd ["_law_history_here", "_law_plates_here"] (spOf c 2 0 sp__law_lost) := by
  refine F.ok sc__law_lost (fun vs H Q E h => ?_) (fun cdv A outer s H vs Q E hr h => ?_)
  · obtain ⟨as, F, ds, M, P, _, hn, _, rd, _⟩ := h
    rw [rd.length, hn]; rfl
  · have hu1 : (A.deeper (envOfC "_law_lost" (defScope s__law_lost) s.heap.objs.size f cdv)).units + 1 < cLine := hu_of hr
    have hu8 : (A.deeper (envOfC "_law_lost" (defScope s__law_lost) s.heap.objs.size f cdv)).units + 8 < cLine := by have := hr.un; omega
    have hu16 : (A.deeper (envOfC "_law_lost" (defScope s__law_lost) s.heap.objs.size f cdv)).units + 16 < cLine := by have := hr.un; omega
    have hu64 : (A.deeper (envOfC "_law_lost" (defScope s__law_lost) s.heap.objs.size f cdv)).units + 64 < cLine := by have := hr.un; omega
    have hu65 : (A.deeper (envOfC "_law_lost" (defScope s__law_lost) s.heap.objs.size f cdv)).units + 65 < cLine := by have := hr.un; omega
    refine ⟨_, (pss_cons (ps_set (i := 2) sc__law_lost.nd rfl (Or.inr rfl) (pe_c g__law_closure hr (by decide) rfl (pa_cons (pe_ix (r := rIxT c.K) ix_tup (pv 0) pe_int (fun _ _ => rfl)) (pa_cons (pv 1) pa_nil))))
        (pss_one (ps_ret (pe_callTy (r := Zq.rTup c.K) call_tuple_of (by rfl) T.b_tuple (by decide +kernel) (pa_cons (pe_lc (own := [("_law_cell", 3), ("_law_version", 4)]) (g := (gTup c.K 2 (gCons (gName 3) (gCons (gName 4) gNil)))) rfl sc__law_lost.nd (pi_enum rfl T.b_enumerate (pa_cons (pe_ix (r := rIxT c.K) ix_tup (pv 0) pe_int (fun _ _ => rfl)) pa_nil)) (blkOk_by (N := ["_law_history_here", "_law_plates_here", "_law_found", "_law_cell", "_law_version"]) (sc := defScope s__law_lost) (by decide +kernel)) (fun _ _ _ _ _ => (pg_tup rfl (pgs_cons (pg_name (i := 3) sc__law_lost.nd rfl (Or.inl rfl)) (pgs_cons (pg_name (i := 4) sc__law_lost.nd rfl (Or.inl rfl)) pgs_nil)))) (fun _ _ _ _ _ => (pts_one (pt_cmp (pc_dnotin hu1 (pv 4) (pv 2))))) (fun _ _ _ _ _ => (pv 3))) pa_nil))))), ?_⟩
    refine body_ok h (by decide) fun ds M R hds hM hS => ?_
    obtain ⟨wr, rd, la, ps, rfl, hr, hl, hp, h3, hP⟩ := hS
    obtain rfl := List.length_eq_zero_iff.mp hM
    show WS c 0 _ [some (dy (T3.mk wr rd la)), some (dy (Tp.mk ps)), none, none, none] [] _ _
    walk_at "zs"
    · refine we_lcF (β := Int × Int) (γ := Int) ([3] ++ [4]) (fun q => q.1) (fun q => !memD (clo rd ps) q.2) (fun t ht => ht) (by walk_at "zok") ?_
      refine wi_enumL (α := Int) ?_
      walk_at "zs"
      refine ⟨la, rfl, rfl, nums la, rfl, by rw [nums_len]; omega, fun y hy acc => ?_, ?_⟩
      · walk_at "zs"
        refine we_dnotinF (β := Bool) ?_
        walk_at "zs"
        refine ⟨rfl, rfl, fun _ => ?_⟩
        walk_at "zs"
        exact ⟨rfl, rfl⟩
      · walk_at "zs"
        exact hP
    all_goals assumption

theorem u__law_lost {M : Mem} {P : Dy → Mem → Prop} {wr : List Int} {rd : List (Tp Int)} {la ps : List Int} (h : P (dy (Tp.mk (lostOf rd la ps))) M) (h1 : rd.length ≤ 400) (h2 : la.length ≤ 8) (h3 : ps.length ≤ 8) (h4 : ∀ row, row ∈ rd → row.l.length ≤ 3) : sp__law_lost [dy (T3.mk wr rd la), dy (Tp.mk ps)] M P := ⟨wr, rd, la, ps, rfl, h1, h2, h3, h4, h⟩
local macro_rules | `(tactic| walk_at "zu") => `(tactic| first
  | refine u_is_integer ?_
  | refine u_is_integer_th ?_
  | refine u_is_number_below ?_ ?_
  | refine u_is_number_below_th ?_
  | refine u_is_bits ?_
  | refine u_is_lot ?_ ?_
  | refine u_is_lot_of_cells ?_ ?_ ?_
  | refine u_is_kind ?_ ?_
  | refine u_is_journal ?_ ?_
  | refine u_check_journal ?_ ?_
  | refine u_fresh ?_ ?_ ?_
  | refine u_last_behind ?_ ?_ ?_
  | refine u_last_versions ?_ ?_ ?_
  | refine u_rows_behind ?_ ?_ ?_
  | refine u_source_rows ?_ ?_ ?_
  | refine u_is_version ?_ ?_ ?_ ?_ ?_
  | refine u_is_plates ?_ ?_ ?_ ?_
  | refine u_check_plates ?_ ?_ ?_ ?_
  | refine u_derived_marks ?_ ?_ ?_ ?_
  | refine u__law_is_int ?_ ?_ ?_
  | refine u__law_is_int_th ?_
  | refine u__law_flag ?_
  | refine u__law_history ?_ ?_ ?_
  | refine u__law_closure ?_ ?_ ?_ ?_
  | refine u__law_lost ?_ ?_ ?_ ?_ ?_)
local macro_rules | `(tactic| walk_at "zs1") => `(tactic| first
  | walk_at "zq"
  | walk_at "zu"
  | walk_at "zb")
local macro_rules | `(tactic| walk_at "zs") => `(tactic| repeat walk_at "zs1")
/-- _law_with -/
def sp__law_with : ASp := fun ds M P => ∃ (wr : List Int) (rd : List (Tp Int)) (la ps cs : List Int), ds = [dy (T3.mk wr rd la), dy (Tp.mk ps), dy (Tp.mk cs)] ∧ la.length = ps.length ∧ ps.length ≤ 8 ∧ P (dy (Tp.mk ((nums ps).map fun q => if q.1 ∈ cs then la.getD q.1.toNat 0 else q.2))) M
theorem sc__law_with : FnScope ["_law_history_here", "_law_plates_here", "_law_cells", "_law_cell", "_law_version"] ["_law_history_here", "_law_plates_here", "_law_cells"] (defScope s__law_with) := ⟨rfl, rfl, rfl, by decide +kernel, rfl, by decide +kernel, by decide +kernel⟩
theorem ok__law_with {f : Addr} {fd : FuncData} (F : Fun c.K "_law_with" "_law_with" s__law_with f fd) (T : Tb mg) (X : Tx c)  :
    FnOk P w c.K mg base CX0 1 f fd ["_law_history_here", "_law_plates_here", "_law_cells"] (spOf c 3 0 sp__law_with) := by
  refine F.ok sc__law_with (fun vs H Q E h => ?_) (fun cdv A outer s H vs Q E hr h => ?_)
  · obtain ⟨as, F, ds, M, P, _, hn, _, rd, _⟩ := h
    rw [rd.length, hn]; rfl
  · have hu1 : (A.deeper (envOfC "_law_with" (defScope s__law_with) s.heap.objs.size f cdv)).units + 1 < cLine := hu_of hr
    have hu8 : (A.deeper (envOfC "_law_with" (defScope s__law_with) s.heap.objs.size f cdv)).units + 8 < cLine := by have := hr.un; omega
    have hu16 : (A.deeper (envOfC "_law_with" (defScope s__law_with) s.heap.objs.size f cdv)).units + 16 < cLine := by have := hr.un; omega
    have hu64 : (A.deeper (envOfC "_law_with" (defScope s__law_with) s.heap.objs.size f cdv)).units + 64 < cLine := by have := hr.un; omega
    have hu65 : (A.deeper (envOfC "_law_with" (defScope s__law_with) s.heap.objs.size f cdv)).units + 65 < cLine := by have := hr.un; omega
    refine ⟨_, (pss_one (ps_ret (pe_callTy (r := Zq.rTup c.K) call_tuple_of (by rfl) T.b_tuple (by decide +kernel) (pa_cons (pe_lc (own := [("_law_cell", 3), ("_law_version", 4)]) (g := (gTup c.K 2 (gCons (gName 3) (gCons (gName 4) gNil)))) rfl sc__law_with.nd (Zr.pi_enumT rfl T.b_enumerate (pa_cons (pv 1) pa_nil)) (blkOk_by (N := ["_law_history_here", "_law_plates_here", "_law_cells", "_law_cell", "_law_version"]) (sc := defScope s__law_with) (by decide +kernel)) (fun _ _ _ _ _ => (pg_tup rfl (pgs_cons (pg_name (i := 3) sc__law_with.nd rfl (Or.inl rfl)) (pgs_cons (pg_name (i := 4) sc__law_with.nd rfl (Or.inl rfl)) pgs_nil)))) (fun _ _ _ _ _ => pts_nil) (fun _ _ _ _ _ => (pe_ifExp (pt_cmpR (r := rIn c.K false) op_in_seq (pv 3) (pv 2) (by first | rfl | decide)) (pe_ix (r := rIxL c.K) ix_list (pe_ix (r := rIxT c.K) ix_tup (pv 0) pe_int (fun _ _ => rfl)) (pv 3) (fun _ _ => rfl)) (pv 4)))) pa_nil)))), ?_⟩
    refine body_ok h (by decide) fun ds M R hds hM hS => ?_
    obtain ⟨wr, rd, la, ps, cs, rfl, h1, h2, hP⟩ := hS
    obtain rfl := List.length_eq_zero_iff.mp hM
    show WS c 0 _ [some (dy (T3.mk wr rd la)), some (dy (Tp.mk ps)), some (dy (Tp.mk cs)), none, none] [] _ _
    walk_at "zs"
    refine we_lcM (β := Int × Int) (γ := Int) ([3] ++ [4]) (fun q => if q.1 ∈ cs then la.getD q.1.toNat 0 else q.2) (fun t ht => ht) (by walk_at "zok") ?_
    refine wi_enumT (α := Int) ?_
    walk_at "zs"
    refine ⟨⟨ps⟩, rfl, rfl, nums ps, rfl, by rw [nums_len]; omega, fun y hy acc => ?_, ?_⟩
    · have hy' := nums_mem (show (y.1, y.2) ∈ nums ps from hy)
      walk_at "zs"
      refine ⟨rfl, ?_⟩
      walk_at "zs"
      refine ⟨fun q => ?_, fun q => ?_⟩
      · walk_at "zs"
        refine rr_ixL (xs := la) hy'.1 (getD_get (xs := la) (by omega)) ?_
        exact ⟨by rw [if_pos (of_decide_eq_true q)], rfl⟩
      · walk_at "zs"
        exact ⟨by rw [if_neg (of_decide_eq_false q)], rfl⟩
    · walk_at "zs"
      exact hP

theorem u__law_with {M : Mem} {P : Dy → Mem → Prop} {wr : List Int} {rd : List (Tp Int)} {la ps cs : List Int} (h : P (dy (Tp.mk ((nums ps).map fun q => if q.1 ∈ cs then la.getD q.1.toNat 0 else q.2))) M) (h1 : la.length = ps.length) (h2 : ps.length ≤ 8) : sp__law_with [dy (T3.mk wr rd la), dy (Tp.mk ps), dy (Tp.mk cs)] M P := ⟨wr, rd, la, ps, cs, rfl, h1, h2, h⟩
local macro_rules | `(tactic| walk_at "zu") => `(tactic| first
  | refine u_is_integer ?_
  | refine u_is_integer_th ?_
  | refine u_is_number_below ?_ ?_
  | refine u_is_number_below_th ?_
  | refine u_is_bits ?_
  | refine u_is_lot ?_ ?_
  | refine u_is_lot_of_cells ?_ ?_ ?_
  | refine u_is_kind ?_ ?_
  | refine u_is_journal ?_ ?_
  | refine u_check_journal ?_ ?_
  | refine u_fresh ?_ ?_ ?_
  | refine u_last_behind ?_ ?_ ?_
  | refine u_last_versions ?_ ?_ ?_
  | refine u_rows_behind ?_ ?_ ?_
  | refine u_source_rows ?_ ?_ ?_
  | refine u_is_version ?_ ?_ ?_ ?_ ?_
  | refine u_is_plates ?_ ?_ ?_ ?_
  | refine u_check_plates ?_ ?_ ?_ ?_
  | refine u_derived_marks ?_ ?_ ?_ ?_
  | refine u__law_is_int ?_ ?_ ?_
  | refine u__law_is_int_th ?_
  | refine u__law_flag ?_
  | refine u__law_history ?_ ?_ ?_
  | refine u__law_closure ?_ ?_ ?_ ?_
  | refine u__law_lost ?_ ?_ ?_ ?_ ?_
  | refine u__law_with ?_ ?_ ?_)
local macro_rules | `(tactic| walk_at "zs1") => `(tactic| first
  | walk_at "zq"
  | walk_at "zu"
  | walk_at "zb")
local macro_rules | `(tactic| walk_at "zs") => `(tactic| repeat walk_at "zs1")
end
end K03
end
section
set_option Elab.async false
set_option linter.all false
set_option maxRecDepth 100000
set_option maxHeartbeats 4000000
namespace K03
open PySem PySem.Spec PyProof.Rows L2 Zq K02
open C8 (Cal Mak pe_c pe_mk pe_gc)
local macro_rules | `(tactic| walk_at "zq") => `(tactic| first
  | with_reducible refine ws_seq ?_
  | with_reducible refine ws_asg ?_
  | (with_reducible apply ws_asgG)
  | with_reducible refine ws_next ?_
  | with_reducible refine ws_ret ?_
  | with_reducible refine ws_if ?_
  | with_reducible refine ws_dput (β := Bool) ?_
  | with_reducible refine ws_drop (te := tCall _ _ _ _) ?_
  | with_reducible refine as_dy ?_
  | ((with_reducible apply we_var); focus rfl)
  | with_reducible refine we_int ?_
  | with_reducible refine we_bl ?_
  | with_reducible refine we_non ?_
  | with_reducible refine we_ty ?_
  | with_reducible refine we_str ?_
  | with_reducible refine we_op2 ?_
  | with_reducible refine we_neg ?_
  | with_reducible refine we_andV ?_
  | with_reducible refine we_orV ?_
  | with_reducible refine we_notV ?_
  | with_reducible refine we_chain ?_
  | with_reducible refine we_if ?_
  | with_reducible refine we_cb ?_
  | with_reducible refine tup_pair ?_
  | with_reducible refine tup_three ?_
  | with_reducible refine tup_nil ?_
  | with_reducible refine we_call ?_
  | with_reducible refine we_callD ?_
  | with_reducible refine we_tup ?_
  | refine we_cells (Tx.cl (by assumption)) (Tx.nc (by assumption)) ?_
  | refine we_kinds (Tx.cl (by assumption)) (Tx.nk (by assumption)) ?_
  | with_reducible refine wt_test ?_
  | with_reducible refine wt_B ?_
  | with_reducible refine wt_not ?_
  | with_reducible refine wt_and ?_
  | with_reducible refine wt_or ?_
  | with_reducible refine wt_yes ?_
  | with_reducible refine wa_cons ?_
  | with_reducible refine wa_nil ?_
  | with_reducible refine rr_II ?_
  | with_reducible refine rr_isTrue ?_
  | with_reducible refine rr_notTrue ?_
  | with_reducible refine rr_isN0 ?_
  | with_reducible refine rr_notN0 ?_
  | with_reducible refine rr_isN ?_
  | with_reducible refine rr_notN ?_
  | with_reducible refine rr_IB ?_
  | with_reducible refine rr_eqI ?_
  | with_reducible refine rr_neI ?_
  | with_reducible refine rr_eqB ?_
  | with_reducible refine rr_ixP0 ?_
  | with_reducible refine rr_ixP1 ?_
  | with_reducible refine rr_ix30 ?_
  | with_reducible refine rr_ix31 ?_
  | with_reducible refine rr_ix32 ?_
  | with_reducible refine rr_leK ?_
  | refine rr_eqD ?_
  | refine rr_neD ?_
  | with_reducible refine rr_inT ?_
  | with_reducible refine rr_ninT ?_
  | with_reducible refine rr_inL ?_
  | with_reducible refine rr_ninL ?_
  | with_reducible refine rc_isi kit_ii ?_
  | with_reducible refine rc_isi kit_ib ?_
  | with_reducible refine rc_isi kit_bb ?_
  | with_reducible refine rc_isi kit_tt ?_
  | refine rc_isInt (Tx.isi (by assumption)) ?_
  | refine rc_isBl (Tx.isi (by assumption)) ?_
  | refine rc_isTup (Tx.isi (by assumption)) ?_
  | refine rc_isStr (Tx.isi (by assumption)) ?_
  | with_reducible refine rc_lenL ?_
  | with_reducible refine rc_lenT ?_
  | with_reducible refine rc_lenP ?_
  | with_reducible refine rc_tupL ?_
  | refine rc_lenM rfl ?_
  | refine rc_tupM rfl ?_
  | ((with_reducible apply rr_inM); focus rfl)
  | ((with_reducible apply rr_ninM); focus rfl)
  | with_reducible refine rc_lstTC ?_
  | with_reducible apply wg_setM
  | refine ex_l rfl ?_
  | refine ex_d rfl ?_
  | with_reducible refine rc_int ?_
  | with_reducible refine rc_abs ?_
  | with_reducible refine rc_min2 ?_
  | with_reducible refine rc_all ?_
  | with_reducible refine rc_any ?_
  | with_reducible refine wg_name ?_
  | (apply wg_tup2)
  | (apply wg_tup3))
local macro_rules | `(tactic| walk_at "zqs") => `(tactic| repeat walk_at "zq")
local macro_rules | `(tactic| walk_at "zok1") => `(tactic| first
  | exact trivial
  | exact dy_ok _ _
  | exact cLst_ok _ _
  | exact cDic_ok _ _
  | exact hand_ok _
  | exact handX_ok
  | exact okM_nil
  | exact okE_nil
  | exact okDs_nil
  | refine okM_cons ?_ ?_
  | refine okDs_cons ?_ ?_
  | refine okE_none ?_
  | refine okE_cons ?_ ?_
  | exact mr_ok (Nat.le_of_ble_eq_true rfl)
  | exact Free.l _ _
  | exact Free.k _ _
  | exact Free.ok _ _
  | exact Frg.refl _
  | exact Frg.nil
  | refine Frg.same ?_
  | refine Frg.drop ?_)
local macro_rules | `(tactic| walk_at "zok") => `(tactic| repeat walk_at "zok1")
local macro_rules | `(tactic| walk_at "zcut") => `(tactic| exact Cut.mk (by walk_at "zok") (by walk_at "zok") (by walk_at "zok") rfl)
local macro_rules | `(tactic| walk_at "zb") => `(tactic| first
  | with_reducible refine bt_tt ?_
  | with_reducible refine bt_ff ?_
  | with_reducible refine bt_nt ?_
  | with_reducible refine bt_nf ?_
  | with_reducible refine bt_ft ?_
  | with_reducible refine bt_tf ?_
  | with_reducible refine bt_nt' ?_
  | with_reducible refine bt_nf' ?_
  | (with_reducible refine bt_t ?_ ?_
     focus (first | rfl | assumption))
  | (with_reducible refine bt_f ?_ ?_
     focus (first | rfl | assumption))
  | (with_reducible refine bt_t' ?_ ?_
     focus (first | rfl | assumption))
  | (with_reducible refine bt_f' ?_ ?_
     focus (first | rfl | assumption))
  | (refine ca5 ?_ ?_ ?_ ?_ ?_
     focus (first | rfl | decide)
     focus (first | exact Nat.zero_le _ | exact Nat.le_of_ble_eq_true rfl)
     focus (walk_at "zok"; done)
     focus (walk_at "zok"; done))
  | (refine ca3 ?_ ?_ ?_
     focus (walk_at "zok"; done)
     focus (walk_at "zok"; done)))

local macro_rules | `(tactic| walk_at "zu") => `(tactic| first
  | refine u_is_integer ?_
  | refine u_is_integer_th ?_
  | refine u_is_number_below ?_ ?_
  | refine u_is_number_below_th ?_
  | refine u_is_bits ?_
  | refine u_is_lot ?_ ?_
  | refine u_is_lot_of_cells ?_ ?_ ?_
  | refine u_is_kind ?_ ?_
  | refine u_is_journal ?_ ?_
  | refine u_check_journal ?_ ?_
  | refine u_fresh ?_ ?_ ?_
  | refine u_last_behind ?_ ?_ ?_
  | refine u_last_versions ?_ ?_ ?_
  | refine u_rows_behind ?_ ?_ ?_
  | refine u_source_rows ?_ ?_ ?_
  | refine u_is_version ?_ ?_ ?_ ?_ ?_
  | refine u_is_plates ?_ ?_ ?_ ?_
  | refine u_check_plates ?_ ?_ ?_ ?_
  | refine u_derived_marks ?_ ?_ ?_ ?_
  | refine u__law_is_int ?_ ?_ ?_
  | refine u__law_is_int_th ?_
  | refine u__law_flag ?_
  | refine u__law_history ?_ ?_ ?_
  | refine u__law_closure ?_ ?_ ?_ ?_
  | refine u__law_lost ?_ ?_ ?_ ?_ ?_
  | refine u__law_with ?_ ?_ ?_)
local macro_rules | `(tactic| walk_at "zs1") => `(tactic| first
  | walk_at "zq"
  | walk_at "zu"
  | walk_at "zb")
local macro_rules | `(tactic| walk_at "zs") => `(tactic| repeat walk_at "zs1")
section
variable {P : Program} {w : World} {c : Cc} {mg : Str → Option Value} {base : Heap}
local macro_rules | `(tactic| walk_at "zh1") => `(tactic| first
  | refine rr_hand0 rfl ?_
  | refine rr_hand1 rfl ?_
  | refine rr_hand2 rfl ?_
  | refine rr_hand3 rfl ?_
  | refine rr_hand4 rfl ?_
  | with_reducible refine ws_asgG (wg_hand ?_)
  | with_reducible refine wg_hand ?_
  | with_reducible refine hh0 ?_
  | with_reducible refine hh1 ?_
  | with_reducible refine hh2 ?_
  | with_reducible refine hh3 ?_
  | with_reducible refine hh4 ?_
  | walk_at "zs1")
local macro_rules | `(tactic| walk_at "zh") => `(tactic| repeat walk_at "zh1")
/-- _law_draw -/
def sp__law_draw : ASp := fun ds M P => ∃ many : Int, ds = [dy (MR.mk 0), dy many] ∧ M = [cHand] ∧ 1 ≤ many ∧ many ≤ 1000 ∧ ∀ r : Int, 0 ≤ r → r < many → P (dy r) [cHand]
theorem sc__law_draw : FnScope ["_law_hand_here", "_law_many", "_law_number", "_law_cell", "_law_digit"] ["_law_hand_here", "_law_many"] (defScope s__law_draw) := ⟨rfl, rfl, rfl, by decide +kernel, rfl, by decide +kernel, by decide +kernel⟩
theorem ok__law_draw {f : Addr} {fd : FuncData} (F : Fun c.K "_law_draw" "_law_draw" s__law_draw f fd) (T : Tb mg) (X : Tx c)  :
    FnOk P w c.K mg base CX0 1 f fd ["_law_hand_here", "_law_many"] (spOf c 2 1 sp__law_draw) := by
  refine F.ok sc__law_draw (fun vs H Q E h => ?_) (fun cdv A outer s H vs Q E hr h => ?_)
  · obtain ⟨as, F, ds, M, P, _, hn, _, rd, _⟩ := h
    rw [rd.length, hn]; rfl
  · have hu1 : (A.deeper (envOfC "_law_draw" (defScope s__law_draw) s.heap.objs.size f cdv)).units + 1 < cLine := hu_of hr
    have hu8 : (A.deeper (envOfC "_law_draw" (defScope s__law_draw) s.heap.objs.size f cdv)).units + 8 < cLine := by have := hr.un; omega
    have hu16 : (A.deeper (envOfC "_law_draw" (defScope s__law_draw) s.heap.objs.size f cdv)).units + 16 < cLine := by have := hr.un; omega
    have hu64 : (A.deeper (envOfC "_law_draw" (defScope s__law_draw) s.heap.objs.size f cdv)).units + 64 < cLine := by have := hr.un; omega
    have hu65 : (A.deeper (envOfC "_law_draw" (defScope s__law_draw) s.heap.objs.size f cdv)).units + 65 < cLine := by have := hr.un; omega
    refine ⟨_, (pss_cons (ps_if (PW.pt (pw_and (pt_cmpR op_eq (pe_ix (r := rIxL c.K) ix_list (pv 0) pe_int (fun _ _ => rfl)) pe_int (nomark _)) (pw_and1 (pt_cmpR op_lt (pe_ix (r := rIxL c.K) ix_list (pv 0) pe_int (fun _ _ => rfl)) (pe_callB (r := Zq.rLen c.K) call_len_seq (by rfl) T.b_len (by decide +kernel) (pa_cons (pe_ix (r := rIxL c.K) ix_list (pv 0) pe_int (fun _ _ => rfl)) pa_nil)) (nomark _))))) (pss_cons (ps_set (i := 3) sc__law_draw.nd rfl (Or.inl rfl) (pe_ix (r := rIxL c.K) ix_list (pe_ix (r := rIxL c.K) ix_list (pv 0) pe_int (fun _ _ => rfl)) (pe_ix (r := rIxL c.K) ix_list (pv 0) pe_int (fun _ _ => rfl)) (fun _ _ => rfl)))
        (pss_cons (ps_asg (pe_op op_add (pe_ix (r := rIxL c.K) ix_list (pv 0) pe_int (fun _ _ => rfl)) pe_int) (pg_sub (pv 0) pe_int set_list))
        (pss_cons (ps_asg (pe_op op_mod (pe_callTy (r := Zq.rInt1) call_int1 (by rfl) T.b_int (by decide +kernel) (pa_cons (pe_op op_add (pe_op op_add (pe_op op_mul (pe_ix (r := rIxL c.K) ix_list (pv 0) pe_int (fun _ _ => rfl)) pe_int) (pv 3)) pe_int) pa_nil)) pe_int) (pg_sub (pv 0) pe_int set_list))
        (pss_one (ps_if (pt_cmpR op_ge (pv 3) (pe_op op_pow pe_int pe_int) (nomark _)) (pss_one (ps_asg (pv 3) (pg_sub (pv 0) pe_int set_list))) pss_nil))))) pss_nil)
        (pss_cons (ps_if (pt_cmpR op_gt (pe_ix (r := rIxL c.K) ix_list (pv 0) pe_int (fun _ _ => rfl)) pe_int (nomark _)) (pss_cons (ps_set (i := 4) sc__law_draw.nd rfl (Or.inl rfl) (pe_op op_mod (pe_callTy (r := Zq.rInt1) call_int1 (by rfl) T.b_int (by decide +kernel) (pa_cons (pe_ix (r := rIxL c.K) ix_list (pv 0) pe_int (fun _ _ => rfl)) pa_nil)) (pv 1)))
        (pss_cons (ps_asg (pe_op op_fdiv (pe_ix (r := rIxL c.K) ix_list (pv 0) pe_int (fun _ _ => rfl)) (pv 1)) (pg_sub (pv 0) pe_int set_list))
        (pss_one (ps_ret (pv 4))))) pss_nil)
        (pss_cons (ps_asg (pe_op op_add (pe_ix (r := rIxL c.K) ix_list (pv 0) pe_int (fun _ _ => rfl)) pe_int) (pg_sub (pv 0) pe_int set_list))
        (pss_cons (ps_set (i := 2) sc__law_draw.nd rfl (Or.inl rfl) (pe_op op_mod (pe_callTy (r := Zq.rInt1) call_int1 (by rfl) T.b_int (by decide +kernel) (pa_cons (pe_op op_mul (pe_callTy (r := Zq.rInt1) call_int1 (by rfl) T.b_int (by decide +kernel) (pa_cons (pe_op op_add (pe_ix (r := rIxL c.K) ix_list (pv 0) pe_int (fun _ _ => rfl)) (pe_op op_mul pe_int (pe_ix (r := rIxL c.K) ix_list (pv 0) pe_int (fun _ _ => rfl)))) pa_nil)) pe_int) pa_nil)) pe_int))
        (pss_cons (ps_set (i := 2) sc__law_draw.nd rfl (Or.inl rfl) (pe_op op_mod (pe_callTy (r := Zq.rInt1) call_int1 (by rfl) T.b_int (by decide +kernel) (pa_cons (pe_op op_mul (pv 2) (pe_op op_add (pe_op op_fdiv (pv 2) pe_int) pe_int)) pa_nil)) pe_int))
        (pss_cons (ps_set (i := 2) sc__law_draw.nd rfl (Or.inl rfl) (pe_op op_mod (pe_callTy (r := Zq.rInt1) call_int1 (by rfl) T.b_int (by decide +kernel) (pa_cons (pe_op op_mul (pv 2) (pe_op op_add (pe_op op_fdiv (pv 2) pe_int) pe_int)) pa_nil)) pe_int))
        (pss_one (ps_ret (pe_op op_mod (pe_callTy (r := Zq.rInt1) call_int1 (by rfl) T.b_int (by decide +kernel) (pa_cons (pe_op op_fdiv (pv 2) pe_int) pa_nil)) (pv 1)))))))))), ?_⟩
    refine body_ok h (by decide) fun ds M R hds hM hS => ?_
    obtain ⟨many, rfl, rfl, h1, h2, hP⟩ := hS
    have hm0 : 0 < many := by omega
    have fin : ∀ x : Int, R (dy (x % many)) [cHand] := fun x => hP _ (Int.emod_nonneg _ (by omega)) (Int.emod_lt_of_pos _ hm0)
    show WS c 1 _ [some (dy (MR.mk 0)), some (dy many), none, none, none] [cHand] _ _
    refine ws_open fun cells a b s n h0 => ws_shut ?_
    let J : Env' → Mem → Prop := fun e m => ∃ (cells : List Int) (a b s n : Int), 0 ≤ a ∧ m = [cHandX cells a b s n] ∧ Frg e [some (dy (MR.mk 0)), some (dy many), none, none, none]
    refine ws_seqJ J ?_ fun e m hJ => ?_
    · walk_at "zh"
      refine ⟨fun q => ?_, fun q => ?_⟩
      · walk_at "zh"
        refine ⟨fun q2 => ?_, fun q2 => ?_⟩
        · walk_at "zh"
          have q3 : a < (cells.length : Int) := of_decide_eq_true q2
          refine rr_ixL (xs := cells) h0 (getD_get (xs := cells) (by omega)) ?_
          generalize cells.getD a.toNat 0 = cell
          walk_at "zh"
          refine rr_mulR ?_ ⟨by decide, by decide⟩
          walk_at "zh"
          refine rr_mod ?_ (by decide)
          walk_at "zh"
          refine rr_pow ?_ ⟨by decide, by decide, by decide⟩
          walk_at "zh"
          refine ⟨fun q4 => ?_, fun q4 => ?_⟩
          · walk_at "zh"
            exact ⟨cells, _, _, _, _, by omega, rfl, by walk_at "zok"⟩
          · walk_at "zh"
            exact ⟨cells, _, _, _, _, by omega, rfl, by walk_at "zok"⟩
        · walk_at "zh"
          exact ⟨cells, a, b, s, n, h0, rfl, by walk_at "zok"⟩
      · walk_at "zh"
        exact ⟨cells, a, b, s, n, h0, rfl, by walk_at "zok"⟩
    · obtain ⟨cells, a, b, s, n, h0, rfl, hf⟩ := hJ
      refine ws_frg hf ?_
      refine ws_seqJ J ?_ fun e m hJ => ?_
      · walk_at "zh"
        refine ⟨fun q => ?_, fun q => ?_⟩
        · walk_at "zh"
          refine rr_mod ?_ hm0
          walk_at "zh"
          refine rr_div ?_ ⟨hm0, by omega⟩
          walk_at "zh"
          exact ⟨cells, _, _, _, _, h0, rfl, fin _⟩
        · walk_at "zh"
          exact ⟨cells, a, b, s, n, h0, rfl, by walk_at "zok"⟩
      · obtain ⟨cells, a, b, s, n, h0, rfl, hf⟩ := hJ
        refine ws_frg hf ?_
        walk_at "zh"
        refine rr_mulL ?_ ⟨by decide, by decide⟩
        walk_at "zh"
        refine rr_mulR ?_ ⟨by decide, by decide⟩
        walk_at "zh"
        refine rr_mod ?_ (by decide)
        have e1 := Int.emod_nonneg ((s + 7919 * (n + 1)) * 48271) (show (2147483647 : Int) ≠ 0 by decide)
        have e2 := Int.emod_lt_of_pos ((s + 7919 * (n + 1)) * 48271) (show (0 : Int) < 2147483647 by decide)
        generalize (s + 7919 * (n + 1)) * 48271 % 2147483647 = x1 at *
        walk_at "zh"
        refine rr_div ?_ ⟨by decide, by decide⟩
        walk_at "zh"
        refine rr_mulL ?_ ⟨by omega, by omega⟩
        walk_at "zh"
        refine rr_mod ?_ (by decide)
        have e3 := Int.emod_nonneg (x1 * (x1 / 1009 + 69621)) (show (2147483647 : Int) ≠ 0 by decide)
        have e4 := Int.emod_lt_of_pos (x1 * (x1 / 1009 + 69621)) (show (0 : Int) < 2147483647 by decide)
        generalize x1 * (x1 / 1009 + 69621) % 2147483647 = x2 at *
        walk_at "zh"
        refine rr_div ?_ ⟨by decide, by decide⟩
        walk_at "zh"
        refine rr_mulL ?_ ⟨by omega, by omega⟩
        walk_at "zh"
        refine rr_mod ?_ (by decide)
        generalize x2 * (x2 / 2003 + 40692) % 2147483399 = x3 at *
        walk_at "zh"
        refine rr_div ?_ ⟨by decide, by decide⟩
        walk_at "zh"
        refine rr_mod ?_ hm0
        walk_at "zh"
        exact ⟨cells, _, _, _, _, h0, rfl, fin _⟩

theorem u__law_draw {P : Dy → Mem → Prop} {many : Int} (h : ∀ r : Int, 0 ≤ r → r < many → P (dy r) [cHand]) (h1 : 1 ≤ many) (h2 : many ≤ 1000) : sp__law_draw [dy (MR.mk 0), dy many] [cHand] P := ⟨many, rfl, rfl, h1, h2, h⟩
local macro_rules | `(tactic| walk_at "zu") => `(tactic| first
  | refine u_is_integer ?_
  | refine u_is_integer_th ?_
  | refine u_is_number_below ?_ ?_
  | refine u_is_number_below_th ?_
  | refine u_is_bits ?_
  | refine u_is_lot ?_ ?_
  | refine u_is_lot_of_cells ?_ ?_ ?_
  | refine u_is_kind ?_ ?_
  | refine u_is_journal ?_ ?_
  | refine u_check_journal ?_ ?_
  | refine u_fresh ?_ ?_ ?_
  | refine u_last_behind ?_ ?_ ?_
  | refine u_last_versions ?_ ?_ ?_
  | refine u_rows_behind ?_ ?_ ?_
  | refine u_source_rows ?_ ?_ ?_
  | refine u_is_version ?_ ?_ ?_ ?_ ?_
  | refine u_is_plates ?_ ?_ ?_ ?_
  | refine u_check_plates ?_ ?_ ?_ ?_
  | refine u_derived_marks ?_ ?_ ?_ ?_
  | refine u__law_is_int ?_ ?_ ?_
  | refine u__law_is_int_th ?_
  | refine u__law_flag ?_
  | refine u__law_history ?_ ?_ ?_
  | refine u__law_closure ?_ ?_ ?_ ?_
  | refine u__law_lost ?_ ?_ ?_ ?_ ?_
  | refine u__law_with ?_ ?_ ?_
  | refine u__law_draw ?_ ?_ ?_)
local macro_rules | `(tactic| walk_at "zs1") => `(tactic| first
  | walk_at "zq"
  | walk_at "zu"
  | walk_at "zb")
local macro_rules | `(tactic| walk_at "zs") => `(tactic| repeat walk_at "zs1")
/-- _law_any -/
def sp__law_any : ASp := fun ds M P => ∃ (xs : List Th), ds = [dy (MR.mk 0), dy xs] ∧ M = [cHand] ∧ xs ≠ [] ∧ xs.length ≤ 1000 ∧ ∀ r : Th, r ∈ xs → P (dy r) [cHand]
theorem sc__law_any : FnScope ["_law_hand_here", "_law_some"] ["_law_hand_here", "_law_some"] (defScope s__law_any) := ⟨rfl, rfl, rfl, by decide +kernel, rfl, by decide +kernel, by decide +kernel⟩
theorem ok__law_any {f : Addr} {fd : FuncData} (F : Fun c.K "_law_any" "_law_any" s__law_any f fd) (T : Tb mg) (X : Tx c) (g__law_draw : Cal P w c.K mg base 1 "_law_draw" (spOf c 2 1 sp__law_draw) []) :
    FnOk P w c.K mg base CX0 2 f fd ["_law_hand_here", "_law_some"] (spOf c 2 1 sp__law_any) := by
  refine F.ok sc__law_any (fun vs H Q E h => ?_) (fun cdv A outer s H vs Q E hr h => ?_)
  · obtain ⟨as, F, ds, M, P, _, hn, _, rd, _⟩ := h
    rw [rd.length, hn]; rfl
  · have hu1 : (A.deeper (envOfC "_law_any" (defScope s__law_any) s.heap.objs.size f cdv)).units + 1 < cLine := hu_of hr
    have hu8 : (A.deeper (envOfC "_law_any" (defScope s__law_any) s.heap.objs.size f cdv)).units + 8 < cLine := by have := hr.un; omega
    have hu16 : (A.deeper (envOfC "_law_any" (defScope s__law_any) s.heap.objs.size f cdv)).units + 16 < cLine := by have := hr.un; omega
    have hu64 : (A.deeper (envOfC "_law_any" (defScope s__law_any) s.heap.objs.size f cdv)).units + 64 < cLine := by have := hr.un; omega
    have hu65 : (A.deeper (envOfC "_law_any" (defScope s__law_any) s.heap.objs.size f cdv)).units + 65 < cLine := by have := hr.un; omega
    refine ⟨_, (pss_one (ps_ret (pe_ix (r := rIxL c.K) ix_list (pv 1) (pe_c g__law_draw hr (by decide) rfl (pa_cons (pv 0) (pa_cons (pe_callB (r := Zq.rLen c.K) call_len_seq (by rfl) T.b_len (by decide +kernel) (pa_cons (pv 1) pa_nil)) pa_nil))) (fun _ _ => rfl)))), ?_⟩
    refine body_ok h (by decide) fun ds M R hds hM hS => ?_
    obtain ⟨xs, rfl, rfl, h1, h2, hP⟩ := hS
    have hl : 0 < xs.length := List.length_pos_iff.mpr h1
    show WS c 1 _ [some (dy (MR.mk 0)), some (dy xs)] [cHand] _ _
    walk_at "zs"
    · intro r r0 r1
      refine rr_ixL r0 (List.getElem?_eq_getElem (by omega : r.toNat < xs.length)) ?_
      walk_at "zs"
      exact hP _ (List.getElem_mem _)
    · omega
    · omega

theorem u__law_any {P : Dy → Mem → Prop} {xs : List Int} (h : ∀ r : Int, r ∈ xs → P (dy r) [cHand]) (h1 : xs ≠ []) (h2 : xs.length ≤ 1000) : sp__law_any [dy (MR.mk 0), dy xs] [cHand] P := ⟨xs.map .int, by rw [th_ints], rfl, by simpa using h1, by rw [List.length_map]; exact h2, fun t ht => by obtain ⟨r, hr, rfl⟩ := List.mem_map.mp ht; rw [th_int]; exact h r hr⟩
local macro_rules | `(tactic| walk_at "zu") => `(tactic| first
  | refine u_is_integer ?_
  | refine u_is_integer_th ?_
  | refine u_is_number_below ?_ ?_
  | refine u_is_number_below_th ?_
  | refine u_is_bits ?_
  | refine u_is_lot ?_ ?_
  | refine u_is_lot_of_cells ?_ ?_ ?_
  | refine u_is_kind ?_ ?_
  | refine u_is_journal ?_ ?_
  | refine u_check_journal ?_ ?_
  | refine u_fresh ?_ ?_ ?_
  | refine u_last_behind ?_ ?_ ?_
  | refine u_last_versions ?_ ?_ ?_
  | refine u_rows_behind ?_ ?_ ?_
  | refine u_source_rows ?_ ?_ ?_
  | refine u_is_version ?_ ?_ ?_ ?_ ?_
  | refine u_is_plates ?_ ?_ ?_ ?_
  | refine u_check_plates ?_ ?_ ?_ ?_
  | refine u_derived_marks ?_ ?_ ?_ ?_
  | refine u__law_is_int ?_ ?_ ?_
  | refine u__law_is_int_th ?_
  | refine u__law_flag ?_
  | refine u__law_history ?_ ?_ ?_
  | refine u__law_closure ?_ ?_ ?_ ?_
  | refine u__law_lost ?_ ?_ ?_ ?_ ?_
  | refine u__law_with ?_ ?_ ?_
  | refine u__law_draw ?_ ?_ ?_
  | refine u__law_any ?_ ?_ ?_)
local macro_rules | `(tactic| walk_at "zs1") => `(tactic| first
  | walk_at "zq"
  | walk_at "zu"
  | walk_at "zb")
local macro_rules | `(tactic| walk_at "zs") => `(tactic| repeat walk_at "zs1")
theorem u__law_any_th {P : Dy → Mem → Prop} {xs : List Th} (h : ∀ r : Th, r ∈ xs → P (dy r) [cHand]) (h1 : xs ≠ []) (h2 : xs.length ≤ 1000) : sp__law_any [dy (MR.mk 0), dy xs] [cHand] P := ⟨xs, rfl, rfl, h1, h2, h⟩
local macro_rules | `(tactic| walk_at "zu") => `(tactic| first
  | refine u_is_integer ?_
  | refine u_is_integer_th ?_
  | refine u_is_number_below ?_ ?_
  | refine u_is_number_below_th ?_
  | refine u_is_bits ?_
  | refine u_is_lot ?_ ?_
  | refine u_is_lot_of_cells ?_ ?_ ?_
  | refine u_is_kind ?_ ?_
  | refine u_is_journal ?_ ?_
  | refine u_check_journal ?_ ?_
  | refine u_fresh ?_ ?_ ?_
  | refine u_last_behind ?_ ?_ ?_
  | refine u_last_versions ?_ ?_ ?_
  | refine u_rows_behind ?_ ?_ ?_
  | refine u_source_rows ?_ ?_ ?_
  | refine u_is_version ?_ ?_ ?_ ?_ ?_
  | refine u_is_plates ?_ ?_ ?_ ?_
  | refine u_check_plates ?_ ?_ ?_ ?_
  | refine u_derived_marks ?_ ?_ ?_ ?_
  | refine u__law_is_int ?_ ?_ ?_
  | refine u__law_is_int_th ?_
  | refine u__law_flag ?_
  | refine u__law_history ?_ ?_ ?_
  | refine u__law_closure ?_ ?_ ?_ ?_
  | refine u__law_lost ?_ ?_ ?_ ?_ ?_
  | refine u__law_with ?_ ?_ ?_
  | refine u__law_draw ?_ ?_ ?_
  | refine u__law_any ?_ ?_ ?_
  | refine u__law_any_th ?_ ?_ ?_)
local macro_rules | `(tactic| walk_at "zs1") => `(tactic| first
  | walk_at "zq"
  | walk_at "zu"
  | walk_at "zb")
local macro_rules | `(tactic| walk_at "zs") => `(tactic| repeat walk_at "zs1")
/-- _law_kinds -/
def sp__law_kinds : ASp := fun ds M P => ∃ (n most : Int), ds = [dy (MR.mk 0), dy n, dy most, dy (3 : Int)] ∧ M = [cHand] ∧ 1 ≤ n ∧ n ≤ 8 ∧ 1 ≤ most ∧ most ≤ 12 ∧ ∀ ks : List Zq.Kind, KsOk n ks → P (dy (Tp.mk ks)) [cHand]
theorem sc__law_kinds : FnScope ["_law_hand_here", "_law_cells", "_law_most", "_law_reads", "_law_found", "_law_turn", "_law_some", "_law_kind", "_law_one"] ["_law_hand_here", "_law_cells", "_law_most", "_law_reads"] (defScope s__law_kinds) := ⟨rfl, rfl, rfl, by decide +kernel, rfl, by decide +kernel, by decide +kernel⟩
theorem ok__law_kinds {f : Addr} {fd : FuncData} (F : Fun c.K "_law_kinds" "_law_kinds" s__law_kinds f fd) (T : Tb mg) (X : Tx c) (g__law_draw : Cal P w c.K mg base 1 "_law_draw" (spOf c 2 1 sp__law_draw) []) :
    FnOk P w c.K mg base CX0 2 f fd ["_law_hand_here", "_law_cells", "_law_most", "_law_reads"] (spOf c 4 1 sp__law_kinds) := by
  refine F.ok sc__law_kinds (fun vs H Q E h => ?_) (fun cdv A outer s H vs Q E hr h => ?_)
  · obtain ⟨as, F, ds, M, P, _, hn, _, rd, _⟩ := h
    rw [rd.length, hn]; rfl
  · have hu1 : (A.deeper (envOfC "_law_kinds" (defScope s__law_kinds) s.heap.objs.size f cdv)).units + 1 < cLine := hu_of hr
    have hu8 : (A.deeper (envOfC "_law_kinds" (defScope s__law_kinds) s.heap.objs.size f cdv)).units + 8 < cLine := by have := hr.un; omega
    have hu16 : (A.deeper (envOfC "_law_kinds" (defScope s__law_kinds) s.heap.objs.size f cdv)).units + 16 < cLine := by have := hr.un; omega
    have hu64 : (A.deeper (envOfC "_law_kinds" (defScope s__law_kinds) s.heap.objs.size f cdv)).units + 64 < cLine := by have := hr.un; omega
    have hu65 : (A.deeper (envOfC "_law_kinds" (defScope s__law_kinds) s.heap.objs.size f cdv)).units + 65 < cLine := by have := hr.un; omega
    refine ⟨_, (pss_cons (ps_set (i := 4) sc__law_kinds.nd rfl (Or.inl rfl) (pe_lst pa_nil))
        (pss_cons (ps_for PassesOwn.never rfl (pi_range1 rfl T.b_range (pa_cons (pe_op op_add pe_int (pe_c g__law_draw hr (by decide) rfl (pa_cons (pv 0) (pa_cons (pv 2) pa_nil)))) pa_nil)) (pg_name (i := 5) sc__law_kinds.nd rfl (Or.inl rfl)) (pss_cons (ps_setLc (i := 6) (own := [("_law_one", 8)]) (g := (gName 8)) rfl sc__law_kinds.nd rfl rfl (sw_true rfl rfl rfl (by decide +kernel)) (pi_range1 rfl T.b_range (pa_cons (pe_c g__law_draw hr (by decide) rfl (pa_cons (pv 0) (pa_cons (pe_op op_add (pv 3) pe_int) pa_nil))) pa_nil)) (blkOk_by (N := ["_law_hand_here", "_law_cells", "_law_most", "_law_reads", "_law_found", "_law_turn", "_law_some", "_law_kind", "_law_one"]) (sc := defScope s__law_kinds) (by decide +kernel)) (fun _ _ _ _ _ => (pg_name (i := 8) sc__law_kinds.nd rfl (Or.inl rfl))) (fun _ _ _ _ _ => pts_nil) (fun _ _ _ _ _ => (pe_c g__law_draw hr (by decide) rfl (pa_cons (pv 0) (pa_cons (pv 1) pa_nil)))))
        (pss_cons (ps_set (i := 7) sc__law_kinds.nd rfl (Or.inl rfl) (pe_tup (pa_cons (pe_c g__law_draw hr (by decide) rfl (pa_cons (pv 0) (pa_cons (pv 1) pa_nil))) (pa_cons (pe_callTy (r := Zq.rTup c.K) call_tuple_of (by rfl) T.b_tuple (by decide +kernel) (pa_cons (pe_callB (r := rSortedSet w) (cr_sortedSet rfl) (by rfl) T.b_sorted (by decide +kernel) (pa_cons (pe_callTy (r := Zr.rSetI c.K w) (Zr.cr_setI rfl) (by rfl) T.b_set (by decide +kernel) (pa_cons (pv 6) pa_nil)) pa_nil)) pa_nil)) pa_nil))))
        (pss_one (ps_if (pt_cmpR (r := rNotInD c.K) (op_notInD hu65) (pv 7) (pv 4) (by first | rfl | decide)) (pss_one (ps_expr (pe_bm PySem.F.plainAttrs_list PySem.F.slot_list_append PySem.F.type_list_append mt_append (pv 4) (pa_cons (pv 7) pa_nil)))) pss_nil)))))
        (pss_one (ps_ret (pe_callTy (r := Zq.rTup c.K) call_tuple_of (by rfl) T.b_tuple (by decide +kernel) (pa_cons (pe_callB (r := Zr.rSortK c.K) (Zr.cr_sortK hu16) (by rfl) T.b_sorted (by decide +kernel) (pa_cons (pv 4) pa_nil)) pa_nil)))))), ?_⟩
    refine body_ok h (by decide) fun ds M R hds hM hS => ?_
    obtain ⟨n, most, rfl, rfl, h1, h2, h3, h4, hP⟩ := hS
    show WS c 1 _ [some (dy (MR.mk 0)), some (dy n), some (dy most), some (dy (3 : Int)), none, none, none, none, none] [cHand] _ _
    walk_at "zs"
    refine we_lstC (α := Zq.Kind) ?_
    walk_at "zs"
    refine ⟨[], rfl, Nat.zero_le _, ?_⟩
    walk_at "zs"
    refine ws_for (β := Int) (S := List Zq.Kind) (ts := [5]) (fun pre s => s.Nodup ∧ s.length ≤ pre.length ∧ (pre ≠ [] → s ≠ []) ∧ ∀ k, k ∈ s → KOk n k) (fun _ => [some (dy (MR.mk 0)), some (dy n), some (dy most), some (dy (3 : Int)), some (dy (MR.mk 1)), none, none, none, none]) (fun s => [cHand, cLst s]) ?_
    refine wi_range ?_
    walk_at "zs"
    · intro r r0 r1
      walk_at "zs"
      refine ⟨1 + r, rfl, by omega, by omega, upto (1 + r).toNat, rfl, [], ⟨.nil, Nat.le_refl _, fun z => absurd rfl z, fun k z => by simp at z⟩, by walk_at "zcut", fun pre y post s e hJ => ?_, fun s hJ => ?_⟩
      · have el := congrArg List.length e
        rw [upto_len, List.length_append, List.length_cons] at el
        walk_at "zs"
        refine we_lcR (β := Int) (γ := Int) [8] (fun _ z => 0 ≤ z ∧ z < n) (fun t ht => ht) (by walk_at "zok") ?_
        refine wi_range ?_
        walk_at "zs"
        · intro q q0 q1
          walk_at "zs"
          refine ⟨q, rfl, by omega, by omega, rfl, upto q.toNat, rfl, by rw [upto_len]; omega, fun y' hy' acc => ?_, fun so hso => ?_⟩
          · walk_at "zs"
            refine ⟨rfl, ?_⟩
            walk_at "zs"
            · intro z z0 z1
              exact ⟨z, rfl, rfl, z0, z1⟩
            · omega
            · omega
          have sl := paired_len hso
          rw [upto_len] at sl
          have sb : ∀ v, v ∈ so → 0 ≤ v ∧ v < n := fun v hv => paired_r (G := fun z => 0 ≤ z ∧ z < n) hso hv
          walk_at "zs"
          · intro kc kc0 kc1
            walk_at "zs"
            refine rc_set (Nat.lt_of_le_of_lt (by omega : so.length + 1 ≤ 10) (by decide)) fun cn hcn => ?_
            walk_at "zs"
            refine rc_sortS rfl (by show cn < 64; omega) fun zs z1 z2 z3 => ?_
            walk_at "zs"
            refine rr_ninDM rfl ?_
            walk_at "zs"
            have kok : KOk n (kc, Tp.mk zs) := ⟨kc0, kc1, z1, fun v hv => sb v ((z2 v).mp hv), by show zs.length ≤ 3; have : zs.length = cn := z3; omega⟩
            refine ⟨fun t => ?_, fun t => ?_⟩
            · refine ws_app (α := Zq.Kind) ?_
              walk_at "zs"
              have hn : (kc, Tp.mk zs) ∉ s := by simpa using t
              refine ⟨by have := hJ.2.1; show s.length < _; omega, s ++ [(kc, Tp.mk zs)], ⟨?_, ?_, fun _ => by simp, fun k hk => ?_⟩, by walk_at "zcut"⟩
              · rw [List.nodup_append]
                refine ⟨hJ.1, by simp, fun a ha b hb => ?_⟩
                have : b = (kc, Tp.mk zs) := by simpa using hb
                subst this
                intro e; subst e; exact hn ha
              · have := hJ.2.1
                simp only [List.length_append, List.length_cons, List.length_nil]; omega
              · rcases List.mem_append.mp hk with z | z
                · exact hJ.2.2.2 k z
                · have : k = (kc, Tp.mk zs) := by simpa using z
                  rw [this]; exact kok
            · walk_at "zs"
              have hn : (kc, Tp.mk zs) ∈ s := by simpa using t
              refine ⟨s, ⟨hJ.1, ?_, fun _ z => by rw [z] at hn; simp at hn, hJ.2.2.2⟩, by walk_at "zcut"⟩
              have := hJ.2.1
              simp only [List.length_append, List.length_cons, List.length_nil]; omega
          · omega
          · omega
        · omega
        · omega
      · walk_at "zs"
        refine rc_sortKM rfl fun zs hz => ?_
        walk_at "zs"
        have ul : (upto (1 + r).toNat).length = (1 + r).toNat := upto_len _
        have sl := hz.perm.length_eq
        have s0 : s ≠ [] := hJ.2.2.1 (by intro z; rw [z] at ul; simp at ul; omega)
        have s1 := List.length_pos_iff.mpr s0
        have s2 := hJ.2.1
        exact hP zs ⟨h1, h2, fun k hk => hJ.2.2.2 k (hz.perm.mem_iff.mp hk), by omega, by omega, ksort_lt hz.asc (hz.perm.nodup_iff.mpr hJ.1)⟩
    · exact h3
    · omega

theorem u__law_kinds {P : Dy → Mem → Prop} {n most : Int} (h : ∀ ks : List Zq.Kind, KsOk n ks → P (dy (Tp.mk ks)) [cHand]) (h1 : 1 ≤ n) (h2 : n ≤ 8) (h3 : 1 ≤ most) (h4 : most ≤ 12) : sp__law_kinds [dy (MR.mk 0), dy n, dy most, dy (3 : Int)] [cHand] P := ⟨n, most, rfl, rfl, h1, h2, h3, h4, h⟩
local macro_rules | `(tactic| walk_at "zu") => `(tactic| first
  | refine u_is_integer ?_
  | refine u_is_integer_th ?_
  | refine u_is_number_below ?_ ?_
  | refine u_is_number_below_th ?_
  | refine u_is_bits ?_
  | refine u_is_lot ?_ ?_
  | refine u_is_lot_of_cells ?_ ?_ ?_
  | refine u_is_kind ?_ ?_
  | refine u_is_journal ?_ ?_
  | refine u_check_journal ?_ ?_
  | refine u_fresh ?_ ?_ ?_
  | refine u_last_behind ?_ ?_ ?_
  | refine u_last_versions ?_ ?_ ?_
  | refine u_rows_behind ?_ ?_ ?_
  | refine u_source_rows ?_ ?_ ?_
  | refine u_is_version ?_ ?_ ?_ ?_ ?_
  | refine u_is_plates ?_ ?_ ?_ ?_
  | refine u_check_plates ?_ ?_ ?_ ?_
  | refine u_derived_marks ?_ ?_ ?_ ?_
  | refine u__law_is_int ?_ ?_ ?_
  | refine u__law_is_int_th ?_
  | refine u__law_flag ?_
  | refine u__law_history ?_ ?_ ?_
  | refine u__law_closure ?_ ?_ ?_ ?_
  | refine u__law_lost ?_ ?_ ?_ ?_ ?_
  | refine u__law_with ?_ ?_ ?_
  | refine u__law_draw ?_ ?_ ?_
  | refine u__law_any ?_ ?_ ?_
  | refine u__law_any_th ?_ ?_ ?_
  | refine u__law_kinds ?_ ?_ ?_ ?_ ?_)
local macro_rules | `(tactic| walk_at "zs1") => `(tactic| first
  | walk_at "zq"
  | walk_at "zu"
  | walk_at "zb")
local macro_rules | `(tactic| walk_at "zs") => `(tactic| repeat walk_at "zs1")
end
end K03
end
section
set_option Elab.async false
set_option linter.all false
set_option maxRecDepth 100000
set_option maxHeartbeats 4000000
namespace K03
open PySem PySem.Spec PyProof.Rows L2 Zq K02
open C8 (Cal Mak pe_c pe_mk pe_gc)
local macro_rules | `(tactic| walk_at "zq") => `(tactic| first
  | with_reducible refine ws_seq ?_
  | with_reducible refine ws_asg ?_
  | (with_reducible apply ws_asgG)
  | with_reducible refine ws_next ?_
  | with_reducible refine ws_ret ?_
  | with_reducible refine ws_if ?_
  | with_reducible refine ws_dput (β := Bool) ?_
  | with_reducible refine ws_drop (te := tCall _ _ _ _) ?_
  | with_reducible refine as_dy ?_
  | ((with_reducible apply we_var); focus rfl)
  | with_reducible refine we_int ?_
  | with_reducible refine we_bl ?_
  | with_reducible refine we_non ?_
  | with_reducible refine we_ty ?_
  | with_reducible refine we_str ?_
  | with_reducible refine we_op2 ?_
  | with_reducible refine we_neg ?_
  | with_reducible refine we_andV ?_
  | with_reducible refine we_orV ?_
  | with_reducible refine we_notV ?_
  | with_reducible refine we_chain ?_
  | with_reducible refine we_if ?_
  | with_reducible refine we_cb ?_
  | with_reducible refine tup_pair ?_
  | with_reducible refine tup_three ?_
  | with_reducible refine tup_nil ?_
  | with_reducible refine we_call ?_
  | with_reducible refine we_callD ?_
  | with_reducible refine we_tup ?_
  | refine we_cells (Tx.cl (by assumption)) (Tx.nc (by assumption)) ?_
  | refine we_kinds (Tx.cl (by assumption)) (Tx.nk (by assumption)) ?_
  | with_reducible refine wt_test ?_
  | with_reducible refine wt_B ?_
  | with_reducible refine wt_not ?_
  | with_reducible refine wt_and ?_
  | with_reducible refine wt_or ?_
  | with_reducible refine wt_yes ?_
  | with_reducible refine wa_cons ?_
  | with_reducible refine wa_nil ?_
  | with_reducible refine rr_II ?_
  | with_reducible refine rr_isTrue ?_
  | with_reducible refine rr_notTrue ?_
  | with_reducible refine rr_isN0 ?_
  | with_reducible refine rr_notN0 ?_
  | with_reducible refine rr_isN ?_
  | with_reducible refine rr_notN ?_
  | with_reducible refine rr_IB ?_
  | with_reducible refine rr_eqI ?_
  | with_reducible refine rr_neI ?_
  | with_reducible refine rr_eqB ?_
  | with_reducible refine rr_ixP0 ?_
  | with_reducible refine rr_ixP1 ?_
  | with_reducible refine rr_ix30 ?_
  | with_reducible refine rr_ix31 ?_
  | with_reducible refine rr_ix32 ?_
  | with_reducible refine rr_leK ?_
  | refine rr_eqD ?_
  | refine rr_neD ?_
  | with_reducible refine rr_inT ?_
  | with_reducible refine rr_ninT ?_
  | with_reducible refine rr_inL ?_
  | with_reducible refine rr_ninL ?_
  | with_reducible refine rc_isi kit_ii ?_
  | with_reducible refine rc_isi kit_ib ?_
  | with_reducible refine rc_isi kit_bb ?_
  | with_reducible refine rc_isi kit_tt ?_
  | refine rc_isInt (Tx.isi (by assumption)) ?_
  | refine rc_isBl (Tx.isi (by assumption)) ?_
  | refine rc_isTup (Tx.isi (by assumption)) ?_
  | refine rc_isStr (Tx.isi (by assumption)) ?_
  | with_reducible refine rc_lenL ?_
  | with_reducible refine rc_lenT ?_
  | with_reducible refine rc_lenP ?_
  | with_reducible refine rc_tupL ?_
  | refine rc_lenM rfl ?_
  | refine rc_tupM rfl ?_
  | ((with_reducible apply rr_inM); focus rfl)
  | ((with_reducible apply rr_ninM); focus rfl)
  | with_reducible refine rc_lstTC ?_
  | with_reducible apply wg_setM
  | refine ex_l rfl ?_
  | refine ex_d rfl ?_
  | with_reducible refine rc_int ?_
  | with_reducible refine rc_abs ?_
  | with_reducible refine rc_min2 ?_
  | with_reducible refine rc_all ?_
  | with_reducible refine rc_any ?_
  | with_reducible refine wg_name ?_
  | (apply wg_tup2)
  | (apply wg_tup3))
local macro_rules | `(tactic| walk_at "zqs") => `(tactic| repeat walk_at "zq")
local macro_rules | `(tactic| walk_at "zok1") => `(tactic| first
  | exact trivial
  | exact dy_ok _ _
  | exact cLst_ok _ _
  | exact cDic_ok _ _
  | exact hand_ok _
  | exact handX_ok
  | exact okM_nil
  | exact okE_nil
  | exact okDs_nil
  | refine okM_cons ?_ ?_
  | refine okDs_cons ?_ ?_
  | refine okE_none ?_
  | refine okE_cons ?_ ?_
  | exact mr_ok (Nat.le_of_ble_eq_true rfl)
  | exact Free.l _ _
  | exact Free.k _ _
  | exact Free.ok _ _
  | exact Frg.refl _
  | exact Frg.nil
  | refine Frg.same ?_
  | refine Frg.drop ?_)
local macro_rules | `(tactic| walk_at "zok") => `(tactic| repeat walk_at "zok1")
local macro_rules | `(tactic| walk_at "zcut") => `(tactic| exact Cut.mk (by walk_at "zok") (by walk_at "zok") (by walk_at "zok") rfl)
local macro_rules | `(tactic| walk_at "zb") => `(tactic| first
  | with_reducible refine bt_tt ?_
  | with_reducible refine bt_ff ?_
  | with_reducible refine bt_nt ?_
  | with_reducible refine bt_nf ?_
  | with_reducible refine bt_ft ?_
  | with_reducible refine bt_tf ?_
  | with_reducible refine bt_nt' ?_
  | with_reducible refine bt_nf' ?_
  | (with_reducible refine bt_t ?_ ?_
     focus (first | rfl | assumption))
  | (with_reducible refine bt_f ?_ ?_
     focus (first | rfl | assumption))
  | (with_reducible refine bt_t' ?_ ?_
     focus (first | rfl | assumption))
  | (with_reducible refine bt_f' ?_ ?_
     focus (first | rfl | assumption))
  | (refine ca5 ?_ ?_ ?_ ?_ ?_
     focus (first | rfl | decide)
     focus (first | exact Nat.zero_le _ | exact Nat.le_of_ble_eq_true rfl)
     focus (walk_at "zok"; done)
     focus (walk_at "zok"; done))
  | (refine ca3 ?_ ?_ ?_
     focus (walk_at "zok"; done)
     focus (walk_at "zok"; done)))

local macro_rules | `(tactic| walk_at "zu") => `(tactic| first
  | refine u_is_integer ?_
  | refine u_is_integer_th ?_
  | refine u_is_number_below ?_ ?_
  | refine u_is_number_below_th ?_
  | refine u_is_bits ?_
  | refine u_is_lot ?_ ?_
  | refine u_is_lot_of_cells ?_ ?_ ?_
  | refine u_is_kind ?_ ?_
  | refine u_is_journal ?_ ?_
  | refine u_check_journal ?_ ?_
  | refine u_fresh ?_ ?_ ?_
  | refine u_last_behind ?_ ?_ ?_
  | refine u_last_versions ?_ ?_ ?_
  | refine u_rows_behind ?_ ?_ ?_
  | refine u_source_rows ?_ ?_ ?_
  | refine u_is_version ?_ ?_ ?_ ?_ ?_
  | refine u_is_plates ?_ ?_ ?_ ?_
  | refine u_check_plates ?_ ?_ ?_ ?_
  | refine u_derived_marks ?_ ?_ ?_ ?_
  | refine u__law_is_int ?_ ?_ ?_
  | refine u__law_is_int_th ?_
  | refine u__law_flag ?_
  | refine u__law_history ?_ ?_ ?_
  | refine u__law_closure ?_ ?_ ?_ ?_
  | refine u__law_lost ?_ ?_ ?_ ?_ ?_
  | refine u__law_with ?_ ?_ ?_
  | refine u__law_draw ?_ ?_ ?_
  | refine u__law_any ?_ ?_ ?_
  | refine u__law_any_th ?_ ?_ ?_
  | refine u__law_kinds ?_ ?_ ?_ ?_ ?_)
local macro_rules | `(tactic| walk_at "zs1") => `(tactic| first
  | walk_at "zq"
  | walk_at "zu"
  | walk_at "zb")
local macro_rules | `(tactic| walk_at "zs") => `(tactic| repeat walk_at "zs1")
section
variable {P : Program} {w : World} {c : Cc} {mg : Str → Option Value} {base : Heap}
/-- _law_table -/
def sp__law_table : ASp := fun ds M P => ∃ n0 : Int, ds = [dy (MR.mk 0), dy n0] ∧ M = [cHand] ∧ 1 ≤ n0 ∧ n0 ≤ 8 ∧ ∀ (n : Int) (ks : List Zq.Kind), KsOk n ks → P (dy (n, Tp.mk ks)) [cHand]
theorem sc__law_table : FnScope ["_law_hand_here", "_law_cells", "_law_many"] ["_law_hand_here", "_law_cells"] (defScope s__law_table) := ⟨rfl, rfl, rfl, by decide +kernel, rfl, by decide +kernel, by decide +kernel⟩
theorem ok__law_table {f : Addr} {fd : FuncData} (F : Fun c.K "_law_table" "_law_table" s__law_table f fd) (T : Tb mg) (X : Tx c) (g__law_draw : Cal P w c.K mg base 1 "_law_draw" (spOf c 2 1 sp__law_draw) []) (g__law_kinds : Cal P w c.K mg base 2 "_law_kinds" (spOf c 4 1 sp__law_kinds) []) (g__law_any : Cal P w c.K mg base 2 "_law_any" (spOf c 2 1 sp__law_any) []) :
    FnOk P w c.K mg base CX0 3 f fd ["_law_hand_here", "_law_cells"] (spOf c 2 1 sp__law_table) := by
  refine F.ok sc__law_table (fun vs H Q E h => ?_) (fun cdv A outer s H vs Q E hr h => ?_)
  · obtain ⟨as, F, ds, M, P, _, hn, _, rd, _⟩ := h
    rw [rd.length, hn]; rfl
  · have hu1 : (A.deeper (envOfC "_law_table" (defScope s__law_table) s.heap.objs.size f cdv)).units + 1 < cLine := hu_of hr
    have hu8 : (A.deeper (envOfC "_law_table" (defScope s__law_table) s.heap.objs.size f cdv)).units + 8 < cLine := by have := hr.un; omega
    have hu16 : (A.deeper (envOfC "_law_table" (defScope s__law_table) s.heap.objs.size f cdv)).units + 16 < cLine := by have := hr.un; omega
    have hu64 : (A.deeper (envOfC "_law_table" (defScope s__law_table) s.heap.objs.size f cdv)).units + 64 < cLine := by have := hr.un; omega
    have hu65 : (A.deeper (envOfC "_law_table" (defScope s__law_table) s.heap.objs.size f cdv)).units + 65 < cLine := by have := hr.un; omega
    refine ⟨_, (pss_cons (ps_set (i := 2) sc__law_table.nd rfl (Or.inl rfl) (pe_op op_add pe_int (pe_c g__law_draw hr (by decide) rfl (pa_cons (pv 0) (pa_cons (pv 1) pa_nil)))))
        (pss_one (ps_ret (pe_tup (pa_cons (pv 2) (pa_cons (pe_c g__law_kinds hr (by decide) rfl (pa_cons (pv 0) (pa_cons (pv 2) (pa_cons (pe_c g__law_any hr (by decide) rfl (pa_cons (pv 0) (pa_cons (pe_lst (pa_cons pe_int (pa_cons pe_int (pa_cons pe_int pa_nil)))) pa_nil))) (pa_cons pe_int pa_nil))))) pa_nil)))))), ?_⟩
    refine body_ok h (by decide) fun ds M R hds hM hS => ?_
    obtain ⟨n0, rfl, rfl, g1, g2, hP⟩ := hS
    show WS c 1 _ [some (dy (MR.mk 0)), some (dy n0), none] [cHand] _ _
    walk_at "zs"
    · intro r r0 r1
      walk_at "zs"
      refine we_lst (α := Int) ?_
      walk_at "zs"
      refine ⟨[3, 6, 12], rfl, by decide, ?_⟩
      walk_at "zs"
      · intro m hm
        have m1 : 1 ≤ m ∧ m ≤ 12 := by
          simp only [List.mem_cons, List.not_mem_nil, or_false] at hm
          omega
        walk_at "zs"
        · intro ks hk
          walk_at "zs"
          exact hP _ ks hk
        all_goals omega
      · decide
      · decide
    · exact g1
    · omega

theorem u__law_table {P : Dy → Mem → Prop} {n0 : Int} (h : ∀ (n : Int) (ks : List Zq.Kind), KsOk n ks → P (dy (n, Tp.mk ks)) [cHand]) (h1 : 1 ≤ n0) (h2 : n0 ≤ 8) : sp__law_table [dy (MR.mk 0), dy n0] [cHand] P := ⟨n0, rfl, rfl, h1, h2, h⟩
local macro_rules | `(tactic| walk_at "zu") => `(tactic| first
  | refine u_is_integer ?_
  | refine u_is_integer_th ?_
  | refine u_is_number_below ?_ ?_
  | refine u_is_number_below_th ?_
  | refine u_is_bits ?_
  | refine u_is_lot ?_ ?_
  | refine u_is_lot_of_cells ?_ ?_ ?_
  | refine u_is_kind ?_ ?_
  | refine u_is_journal ?_ ?_
  | refine u_check_journal ?_ ?_
  | refine u_fresh ?_ ?_ ?_
  | refine u_last_behind ?_ ?_ ?_
  | refine u_last_versions ?_ ?_ ?_
  | refine u_rows_behind ?_ ?_ ?_
  | refine u_source_rows ?_ ?_ ?_
  | refine u_is_version ?_ ?_ ?_ ?_ ?_
  | refine u_is_plates ?_ ?_ ?_ ?_
  | refine u_check_plates ?_ ?_ ?_ ?_
  | refine u_derived_marks ?_ ?_ ?_ ?_
  | refine u__law_is_int ?_ ?_ ?_
  | refine u__law_is_int_th ?_
  | refine u__law_flag ?_
  | refine u__law_history ?_ ?_ ?_
  | refine u__law_closure ?_ ?_ ?_ ?_
  | refine u__law_lost ?_ ?_ ?_ ?_ ?_
  | refine u__law_with ?_ ?_ ?_
  | refine u__law_draw ?_ ?_ ?_
  | refine u__law_any ?_ ?_ ?_
  | refine u__law_any_th ?_ ?_ ?_
  | refine u__law_kinds ?_ ?_ ?_ ?_ ?_
  | refine u__law_table ?_ ?_ ?_)
local macro_rules | `(tactic| walk_at "zs1") => `(tactic| first
  | walk_at "zq"
  | walk_at "zu"
  | walk_at "zb")
local macro_rules | `(tactic| walk_at "zs") => `(tactic| repeat walk_at "zs1")
/-- _law_journal -/
def sp__law_journal : ASp := fun ds M P => ∃ (ks : List Zq.Kind) (most : Int), ds = [dy (MR.mk 0), dy (Tp.mk ks), dy most] ∧ M = [cHand] ∧ 1 ≤ ks.length ∧ ks.length ≤ 40 ∧ 0 ≤ most ∧ most ≤ 60 ∧ ∀ js : List Int, JOk ks js → js.length ≤ 60 → P (dy (Tp.mk js)) [cHand]
theorem sc__law_journal : FnScope ["_law_hand_here", "_law_kinds_here", "_law_most", "_law_turn"] ["_law_hand_here", "_law_kinds_here", "_law_most"] (defScope s__law_journal) := ⟨rfl, rfl, rfl, by decide +kernel, rfl, by decide +kernel, by decide +kernel⟩
theorem ok__law_journal {f : Addr} {fd : FuncData} (F : Fun c.K "_law_journal" "_law_journal" s__law_journal f fd) (T : Tb mg) (X : Tx c) (g__law_draw : Cal P w c.K mg base 1 "_law_draw" (spOf c 2 1 sp__law_draw) []) :
    FnOk P w c.K mg base CX0 2 f fd ["_law_hand_here", "_law_kinds_here", "_law_most"] (spOf c 3 1 sp__law_journal) := by
  refine F.ok sc__law_journal (fun vs H Q E h => ?_) (fun cdv A outer s H vs Q E hr h => ?_)
  · obtain ⟨as, F, ds, M, P, _, hn, _, rd, _⟩ := h
    rw [rd.length, hn]; rfl
  · have hu1 : (A.deeper (envOfC "_law_journal" (defScope s__law_journal) s.heap.objs.size f cdv)).units + 1 < cLine := hu_of hr
    have hu8 : (A.deeper (envOfC "_law_journal" (defScope s__law_journal) s.heap.objs.size f cdv)).units + 8 < cLine := by have := hr.un; omega
    have hu16 : (A.deeper (envOfC "_law_journal" (defScope s__law_journal) s.heap.objs.size f cdv)).units + 16 < cLine := by have := hr.un; omega
    have hu64 : (A.deeper (envOfC "_law_journal" (defScope s__law_journal) s.heap.objs.size f cdv)).units + 64 < cLine := by have := hr.un; omega
    have hu65 : (A.deeper (envOfC "_law_journal" (defScope s__law_journal) s.heap.objs.size f cdv)).units + 65 < cLine := by have := hr.un; omega
    refine ⟨_, (pss_one (ps_ret (pe_callTy (r := Zq.rTup c.K) call_tuple_of (by rfl) T.b_tuple (by decide +kernel) (pa_cons (pe_lc (own := [("_law_turn", 3)]) (g := (gName 3)) rfl sc__law_journal.nd (pi_range1 rfl T.b_range (pa_cons (pe_c g__law_draw hr (by decide) rfl (pa_cons (pv 0) (pa_cons (pe_op op_add (pv 2) pe_int) pa_nil))) pa_nil)) (blkOk_by (N := ["_law_hand_here", "_law_kinds_here", "_law_most", "_law_turn"]) (sc := defScope s__law_journal) (by decide +kernel)) (fun _ _ _ _ _ => (pg_name (i := 3) sc__law_journal.nd rfl (Or.inl rfl))) (fun _ _ _ _ _ => pts_nil) (fun _ _ _ _ _ => (pe_c g__law_draw hr (by decide) rfl (pa_cons (pv 0) (pa_cons (pe_callB (r := Zq.rLen c.K) call_len_seq (by rfl) T.b_len (by decide +kernel) (pa_cons (pv 1) pa_nil)) pa_nil))))) pa_nil)))), ?_⟩
    refine body_ok h (by decide) fun ds M R hds hM hS => ?_
    obtain ⟨ks, most, rfl, rfl, h1, h2, h3, h4, hP⟩ := hS
    show WS c 1 _ [some (dy (MR.mk 0)), some (dy (Tp.mk ks)), some (dy most), none] [cHand] _ _
    walk_at "zs"
    refine we_lcR (β := Int) (γ := Int) [3] (fun _ z => 0 ≤ z ∧ z < (ks.length : Int)) (fun t ht => ht) (by walk_at "zok") ?_
    refine wi_range ?_
    walk_at "zs"
    · intro q q0 q1
      walk_at "zs"
      refine ⟨q, rfl, by omega, by omega, rfl, upto q.toNat, rfl, by rw [upto_len]; omega, fun y' hy' acc => ?_, fun so hso => ?_⟩
      · walk_at "zs"
        refine ⟨rfl, ?_⟩
        walk_at "zs"
        · intro z z0 z1
          exact ⟨z, rfl, rfl, z0, z1⟩
        · show 1 ≤ ((ks.length : Nat) : Int); omega
        · show ((ks.length : Nat) : Int) ≤ _; omega
      have sl := paired_len hso
      rw [upto_len] at sl
      walk_at "zs"
      exact hP so ⟨by omega, fun v hv => paired_r (G := fun z => 0 ≤ z ∧ z < (ks.length : Int)) hso hv⟩ (by omega)
    · omega
    · omega

theorem u__law_journal {P : Dy → Mem → Prop} {ks : List Zq.Kind} {most : Int} (h : ∀ js : List Int, JOk ks js → js.length ≤ 60 → P (dy (Tp.mk js)) [cHand]) (h1 : 1 ≤ ks.length) (h2 : ks.length ≤ 40) (h3 : 0 ≤ most) (h4 : most ≤ 60) : sp__law_journal [dy (MR.mk 0), dy (Tp.mk ks), dy most] [cHand] P := ⟨ks, most, rfl, rfl, h1, h2, h3, h4, h⟩
local macro_rules | `(tactic| walk_at "zu") => `(tactic| first
  | refine u_is_integer ?_
  | refine u_is_integer_th ?_
  | refine u_is_number_below ?_ ?_
  | refine u_is_number_below_th ?_
  | refine u_is_bits ?_
  | refine u_is_lot ?_ ?_
  | refine u_is_lot_of_cells ?_ ?_ ?_
  | refine u_is_kind ?_ ?_
  | refine u_is_journal ?_ ?_
  | refine u_check_journal ?_ ?_
  | refine u_fresh ?_ ?_ ?_
  | refine u_last_behind ?_ ?_ ?_
  | refine u_last_versions ?_ ?_ ?_
  | refine u_rows_behind ?_ ?_ ?_
  | refine u_source_rows ?_ ?_ ?_
  | refine u_is_version ?_ ?_ ?_ ?_ ?_
  | refine u_is_plates ?_ ?_ ?_ ?_
  | refine u_check_plates ?_ ?_ ?_ ?_
  | refine u_derived_marks ?_ ?_ ?_ ?_
  | refine u__law_is_int ?_ ?_ ?_
  | refine u__law_is_int_th ?_
  | refine u__law_flag ?_
  | refine u__law_history ?_ ?_ ?_
  | refine u__law_closure ?_ ?_ ?_ ?_
  | refine u__law_lost ?_ ?_ ?_ ?_ ?_
  | refine u__law_with ?_ ?_ ?_
  | refine u__law_draw ?_ ?_ ?_
  | refine u__law_any ?_ ?_ ?_
  | refine u__law_any_th ?_ ?_ ?_
  | refine u__law_kinds ?_ ?_ ?_ ?_ ?_
  | refine u__law_table ?_ ?_ ?_
  | refine u__law_journal ?_ ?_ ?_ ?_ ?_)
local macro_rules | `(tactic| walk_at "zs1") => `(tactic| first
  | walk_at "zq"
  | walk_at "zu"
  | walk_at "zb")
local macro_rules | `(tactic| walk_at "zs") => `(tactic| repeat walk_at "zs1")
/-- _law_versions -/
def sp__law_versions : ASp := fun ds M P => ∃ (n : Int) (wr : List Int), ds = [dy n, dy wr] ∧ 1 ≤ n ∧ n ≤ 8 ∧ wr.length ≤ 400 ∧ (∀ x, x ∈ wr → 0 ≤ x ∧ x < n) ∧ ∀ ls : List (List Int), VOk n wr wr.length ls → P (dy ls) M
theorem sc__law_versions : FnScope ["_law_cells", "_law_written", "_law_found", "_law_deed", "_law_cell"] ["_law_cells", "_law_written"] (defScope s__law_versions) := ⟨rfl, rfl, rfl, by decide +kernel, rfl, by decide +kernel, by decide +kernel⟩
theorem ok__law_versions {f : Addr} {fd : FuncData} (F : Fun c.K "_law_versions" "_law_versions" s__law_versions f fd) (T : Tb mg) (X : Tx c)  :
    FnOk P w c.K mg base CX0 1 f fd ["_law_cells", "_law_written"] (spOf c 2 0 sp__law_versions) := by
  refine F.ok sc__law_versions (fun vs H Q E h => ?_) (fun cdv A outer s H vs Q E hr h => ?_)
  · obtain ⟨as, F, ds, M, P, _, hn, _, rd, _⟩ := h
    rw [rd.length, hn]; rfl
  · have hu1 : (A.deeper (envOfC "_law_versions" (defScope s__law_versions) s.heap.objs.size f cdv)).units + 1 < cLine := hu_of hr
    have hu8 : (A.deeper (envOfC "_law_versions" (defScope s__law_versions) s.heap.objs.size f cdv)).units + 8 < cLine := by have := hr.un; omega
    have hu16 : (A.deeper (envOfC "_law_versions" (defScope s__law_versions) s.heap.objs.size f cdv)).units + 16 < cLine := by have := hr.un; omega
    have hu64 : (A.deeper (envOfC "_law_versions" (defScope s__law_versions) s.heap.objs.size f cdv)).units + 64 < cLine := by have := hr.un; omega
    have hu65 : (A.deeper (envOfC "_law_versions" (defScope s__law_versions) s.heap.objs.size f cdv)).units + 65 < cLine := by have := hr.un; omega
    refine ⟨_, (pss_cons (ps_setLc (i := 2) (own := [("_law_cell", 4)]) (g := (gName 4)) rfl sc__law_versions.nd rfl rfl (sw_true rfl rfl rfl (by decide +kernel)) (pi_range1 rfl T.b_range (pa_cons (pv 0) pa_nil)) (blkOk_by (N := ["_law_cells", "_law_written", "_law_found", "_law_deed", "_law_cell"]) (sc := defScope s__law_versions) (by decide +kernel)) (fun _ _ _ _ _ => (pg_name (i := 4) sc__law_versions.nd rfl (Or.inl rfl))) (fun _ _ _ _ _ => pts_nil) (fun _ _ _ _ _ => (pe_lst (pa_cons (pe_op op_sub (pe_un un_neg pe_int) (pv 4)) pa_nil))))
        (pss_cons (ps_for PassesOwn.never rfl (pi_enum rfl T.b_enumerate (pa_cons (pv 1) pa_nil)) (pg_tup rfl (pgs_cons (pg_name (i := 3) sc__law_versions.nd rfl (Or.inl rfl)) (pgs_cons (pg_name (i := 4) sc__law_versions.nd rfl (Or.inl rfl)) pgs_nil))) (pss_one (ps_expr (pe_bm PySem.F.plainAttrs_list PySem.F.slot_list_append PySem.F.type_list_append mt_append (pe_ix (r := rIxL c.K) ix_list (pv 2) (pv 4) (fun _ _ => rfl)) (pa_cons (pv 3) pa_nil)))))
        (pss_one (ps_ret (pv 2))))), ?_⟩
    refine body_ok h (by decide) fun ds M R hds hM hS => ?_
    obtain ⟨n, wr, rfl, n1, n8, wl, wb, hP⟩ := hS
    obtain rfl := List.length_eq_zero_iff.mp hM
    show WS c 0 _ [some (dy n), some (dy wr), none, none, none] [] _ _
    walk_at "zs"
    refine we_lcN (β := Int) (γ := Int) [4] (fun i => [-1 - i]) (fun t ht => ht) ?_
    refine wi_range ?_
    walk_at "zs"
    refine ⟨n, rfl, by omega, by omega, rfl, upto n.toNat, rfl, by rw [upto_len]; omega, fun y hy N => ?_, ?_⟩
    · walk_at "zs"
      refine we_lstC (α := Int) ?_
      walk_at "zs"
      exact ⟨[-1 - y], rfl, by simp, rfl, rfl⟩
    rw [upto_len]
    walk_at "zs"
    refine ws_for (β := Int × Int) (S := List (List Int)) (ts := [3] ++ [4]) (fun pre ls => VOk n wr pre.length ls) (fun _ => [some (dy n), some (dy wr), some (dy (MR.mk 0)), none, none]) (fun ls => mVers n.toNat ls) ?_
    refine wi_enumL (α := Int) ?_
    walk_at "zs"
    have hN : (([] : Mem) ++ [cLst (mrs ([] : Mem).length n.toNat)] ++ List.map (fun y => cLst [-1 - y]) (upto n.toNat)).length = n.toNat + 1 := by
      simp only [List.length_append, List.length_cons, List.length_nil, List.length_map, upto_len]; omega
    rw [hN]
    have hv0 := vok0 n wr
    refine ⟨wr, rfl, nums wr, rfl, (upto n.toNat).map fun i => [-1 - i], hv0, ?_, fun pre y post ls e hJ => ?_, fun ls hJ => ?_⟩
    · have e9 : (([] : Mem) ++ [cLst (mrs ([] : Mem).length n.toNat)] ++ List.map (fun y => cLst [-1 - y]) (upto n.toNat)) = mVers n.toNat ((upto n.toNat).map fun i => [-1 - i]) := by unfold mVers; rw [List.map_map]; rfl
      rw [e9]
      exact cut_vers hv0.len (by walk_at "zok") (by walk_at "zok")
    · obtain ⟨h1, h2, h3, hm⟩ := nums_split e
      have xb := wb _ hm
      have ll := hJ.len
      have hxl : y.2.toNat < ls.length := by omega
      have hg := List.getElem?_eq_getElem hxl
      generalize ls[y.2.toNat] = l at hg
      have la := hJ.at_ _ _ hg
      walk_at "zs"
      refine ws_app (α := Int) ?_
      walk_at "zs"
      refine rr_ixM (xs := mrs 0 n.toNat) rfl xb.1 (mrs_get (by omega)) ?_
      walk_at "zs"
      refine ⟨l, mVers_get hg, ?_⟩
      walk_at "zs"
      refine ⟨l, mVers_get hg, by omega, ls.set y.2.toNat (l ++ [y.1]), ?_, ?_⟩
      · rw [h1, List.length_append]
        exact vok_step hJ h3 xb.1 hg
      · show Zq.Cut _ _ ((mVers n.toNat ls).set (0 + 1 + y.2.toNat) (cLst (l ++ [y.1]))) _ _
        rw [mVers_set]
        exact cut_vers (by rw [List.length_set]; exact ll) (by walk_at "zok") (by walk_at "zok")
    · rw [nums_len] at hJ
      refine ws_retF ?_
      walk_at "zs"
      exact ⟨_, melt_vers hJ.len, trivial, hP ls hJ⟩

theorem u__law_versions {M : Mem} {P : Dy → Mem → Prop} {n : Int} {wr : List Int} (h : ∀ ls : List (List Int), VOk n wr wr.length ls → P (dy ls) M) (h1 : 1 ≤ n) (h2 : n ≤ 8) (h3 : wr.length ≤ 400) (h4 : ∀ x, x ∈ wr → 0 ≤ x ∧ x < n) : sp__law_versions [dy n, dy wr] M P := ⟨n, wr, rfl, h1, h2, h3, h4, h⟩
local macro_rules | `(tactic| walk_at "zu") => `(tactic| first
  | refine u_is_integer ?_
  | refine u_is_integer_th ?_
  | refine u_is_number_below ?_ ?_
  | refine u_is_number_below_th ?_
  | refine u_is_bits ?_
  | refine u_is_lot ?_ ?_
  | refine u_is_lot_of_cells ?_ ?_ ?_
  | refine u_is_kind ?_ ?_
  | refine u_is_journal ?_ ?_
  | refine u_check_journal ?_ ?_
  | refine u_fresh ?_ ?_ ?_
  | refine u_last_behind ?_ ?_ ?_
  | refine u_last_versions ?_ ?_ ?_
  | refine u_rows_behind ?_ ?_ ?_
  | refine u_source_rows ?_ ?_ ?_
  | refine u_is_version ?_ ?_ ?_ ?_ ?_
  | refine u_is_plates ?_ ?_ ?_ ?_
  | refine u_check_plates ?_ ?_ ?_ ?_
  | refine u_derived_marks ?_ ?_ ?_ ?_
  | refine u__law_is_int ?_ ?_ ?_
  | refine u__law_is_int_th ?_
  | refine u__law_flag ?_
  | refine u__law_history ?_ ?_ ?_
  | refine u__law_closure ?_ ?_ ?_ ?_
  | refine u__law_lost ?_ ?_ ?_ ?_ ?_
  | refine u__law_with ?_ ?_ ?_
  | refine u__law_draw ?_ ?_ ?_
  | refine u__law_any ?_ ?_ ?_
  | refine u__law_any_th ?_ ?_ ?_
  | refine u__law_kinds ?_ ?_ ?_ ?_ ?_
  | refine u__law_table ?_ ?_ ?_
  | refine u__law_journal ?_ ?_ ?_ ?_ ?_
  | refine u__law_versions ?_ ?_ ?_ ?_ ?_)
local macro_rules | `(tactic| walk_at "zs1") => `(tactic| first
  | walk_at "zq"
  | walk_at "zu"
  | walk_at "zb")
local macro_rules | `(tactic| walk_at "zs") => `(tactic| repeat walk_at "zs1")
/-- _law_plates -/
def sp__law_plates : ASp := fun ds M P => ∃ (n : Int) (wr : List Int) (rd : List (Tp Int)) (la : List Int), ds = [dy (MR.mk 0), dy n, dy (T3.mk wr rd la)] ∧ M = [cHand] ∧ 1 ≤ n ∧ n ≤ 8 ∧ wr.length ≤ 400 ∧ (∀ x, x ∈ wr → 0 ≤ x ∧ x < n) ∧ rd.length ≤ 400 ∧ (∀ row, row ∈ rd → row.l.length ≤ 3) ∧ POk n wr la ∧ ∀ ps : List Int, POk n wr ps → P (dy (Tp.mk ps)) [cHand]
theorem sc__law_plates : FnScope ["_law_hand_here", "_law_cells", "_law_history_here", "_law_kind", "_law_plates_here", "_law_turn", "_law_later", "_law_cell", "_law_some"] ["_law_hand_here", "_law_cells", "_law_history_here"] (defScope s__law_plates) := ⟨rfl, rfl, rfl, by decide +kernel, rfl, by decide +kernel, by decide +kernel⟩
theorem ok__law_plates {f : Addr} {fd : FuncData} (F : Fun c.K "_law_plates" "_law_plates" s__law_plates f fd) (T : Tb mg) (X : Tx c) (g__law_draw : Cal P w c.K mg base 1 "_law_draw" (spOf c 2 1 sp__law_draw) []) (g__law_versions : Cal P w c.K mg base 1 "_law_versions" (spOf c 2 0 sp__law_versions) []) (g__law_any : Cal P w c.K mg base 2 "_law_any" (spOf c 2 1 sp__law_any) []) (g__law_with : Cal P w c.K mg base 1 "_law_with" (spOf c 3 0 sp__law_with) []) (g__law_lost : Cal P w c.K mg base 2 "_law_lost" (spOf c 2 0 sp__law_lost) []) :
    FnOk P w c.K mg base CX0 3 f fd ["_law_hand_here", "_law_cells", "_law_history_here"] (spOf c 3 1 sp__law_plates) := by
  refine F.ok sc__law_plates (fun vs H Q E h => ?_) (fun cdv A outer s H vs Q E hr h => ?_)
  · obtain ⟨as, F, ds, M, P, _, hn, _, rd, _⟩ := h
    rw [rd.length, hn]; rfl
  · have hu1 : (A.deeper (envOfC "_law_plates" (defScope s__law_plates) s.heap.objs.size f cdv)).units + 1 < cLine := hu_of hr
    have hu8 : (A.deeper (envOfC "_law_plates" (defScope s__law_plates) s.heap.objs.size f cdv)).units + 8 < cLine := by have := hr.un; omega
    have hu16 : (A.deeper (envOfC "_law_plates" (defScope s__law_plates) s.heap.objs.size f cdv)).units + 16 < cLine := by have := hr.un; omega
    have hu64 : (A.deeper (envOfC "_law_plates" (defScope s__law_plates) s.heap.objs.size f cdv)).units + 64 < cLine := by have := hr.un; omega
    have hu65 : (A.deeper (envOfC "_law_plates" (defScope s__law_plates) s.heap.objs.size f cdv)).units + 65 < cLine := by have := hr.un; omega
    refine ⟨_, (pss_cons (ps_set (i := 3) sc__law_plates.nd rfl (Or.inl rfl) (pe_c g__law_draw hr (by decide) rfl (pa_cons (pv 0) (pa_cons pe_int pa_nil))))
        (pss_cons (ps_if (pt_cmpR op_eq (pv 3) pe_int (nomark _)) (pss_one (ps_ret (pe_callTy (r := Zq.rTup c.K) call_tuple_of (by rfl) T.b_tuple (by decide +kernel) (pa_cons (pe_lc (own := [("_law_some", 8)]) (g := (gName 8)) rfl sc__law_plates.nd (pi_list (pe_c g__law_versions hr (by decide) rfl (pa_cons (pv 1) (pa_cons (pe_ix (r := rIxT c.K) ix_tup (pv 2) pe_int (fun _ _ => rfl)) pa_nil)))) (blkOk_by (N := ["_law_hand_here", "_law_cells", "_law_history_here", "_law_kind", "_law_plates_here", "_law_turn", "_law_later", "_law_cell", "_law_some"]) (sc := defScope s__law_plates) (by decide +kernel)) (fun _ _ _ _ _ => (pg_name (i := 8) sc__law_plates.nd rfl (Or.inl rfl))) (fun _ _ _ _ _ => pts_nil) (fun _ _ _ _ _ => (pe_c g__law_any hr (by decide) rfl (pa_cons (pv 0) (pa_cons (pv 8) pa_nil))))) pa_nil)))) pss_nil)
        (pss_cons (ps_set (i := 4) sc__law_plates.nd rfl (Or.inl rfl) (pe_callTy (r := Zq.rTup c.K) call_tuple_of (by rfl) T.b_tuple (by decide +kernel) (pa_cons (pe_lc (own := [("_law_cell", 7)]) (g := (gName 7)) rfl sc__law_plates.nd (pi_range1 rfl T.b_range (pa_cons (pv 1) pa_nil)) (blkOk_by (N := ["_law_hand_here", "_law_cells", "_law_history_here", "_law_kind", "_law_plates_here", "_law_turn", "_law_later", "_law_cell", "_law_some"]) (sc := defScope s__law_plates) (by decide +kernel)) (fun _ _ _ _ _ => (pg_name (i := 7) sc__law_plates.nd rfl (Or.inl rfl))) (fun _ _ _ _ _ => pts_nil) (fun _ _ _ _ _ => (pe_op op_sub (pe_un un_neg pe_int) (pv 7)))) pa_nil)))
        (pss_cons (ps_for PassesOwn.never rfl (pi_range1 rfl T.b_range (pa_cons (pe_c g__law_draw hr (by decide) rfl (pa_cons (pv 0) (pa_cons (pe_op op_add (pv 1) pe_int) pa_nil))) pa_nil)) (pg_name (i := 5) sc__law_plates.nd rfl (Or.inl rfl)) (pss_cons (ps_set (i := 6) sc__law_plates.nd rfl (Or.inl rfl) (pe_c g__law_with hr (by decide) rfl (pa_cons (pv 2) (pa_cons (pv 4) (pa_cons (pe_tup (pa_cons (pe_c g__law_draw hr (by decide) rfl (pa_cons (pv 0) (pa_cons (pv 1) pa_nil))) pa_nil)) pa_nil)))))
        (pss_one (ps_if (pt_cmpR (r := rEqD c.K) (op_eqD hu64) (pe_c g__law_lost hr (by decide) rfl (pa_cons (pv 2) (pa_cons (pv 6) pa_nil))) (pe_tup pa_nil) (nomark _)) (pss_one (ps_set (i := 4) sc__law_plates.nd rfl (Or.inl rfl) (pv 6))) pss_nil))))
        (pss_one (ps_ret (pv 4))))))), ?_⟩
    refine body_ok h (by decide) fun ds M R hds hM hS => ?_
    obtain ⟨n, wr, rd, la, rfl, rfl, n1, n8, wl, wb, rl, r3, hla, hP⟩ := hS
    show WS c 1 _ [some (dy (MR.mk 0)), some (dy n), some (dy (T3.mk wr rd la)), none, none, none, none, none, none] [cHand] _ _
    walk_at "zs"
    · intro k k0 k1
      walk_at "zs"
      refine ⟨fun q => ?_, fun q => ?_⟩
      · walk_at "zs"
        refine we_lcR (β := List Int) (γ := Int) [8] (fun l z => z ∈ l) (fun t ht => ht) (by walk_at "zok") ?_
        refine wi_list (α := List Int) ?_
        walk_at "zs"
        · intro ls hls
          have ll := hls.len
          refine ⟨ls, rfl, rfl, ls, rfl, by omega, fun l hl acc => ?_, fun ps hps => ?_⟩
          · obtain ⟨i, hi⟩ := List.mem_iff_getElem?.mp hl
            obtain ⟨a1, a2, a3⟩ := hls.at_ i l hi
            have a4 : l.length ≤ wr.length + 1 := a2
            walk_at "zs"
            refine ⟨rfl, ?_⟩
            walk_at "zs"
            · intro z hz
              exact ⟨z, rfl, rfl, hz⟩
            · exact a1
            · omega
          · walk_at "zs"
            exact hP ps (vok_plates hls hps)
        all_goals assumption
      · walk_at "zs"
        refine we_lcM (β := Int) (γ := Int) [7] (fun i => -1 - i) (fun t ht => ht) (by walk_at "zok") ?_
        refine wi_range ?_
        walk_at "zs"
        refine ⟨n, rfl, by omega, by omega, rfl, upto n.toNat, rfl, by rw [upto_len]; omega, fun y hy acc => ?_, ?_⟩
        · walk_at "zs"
          refine ⟨rfl, ?_⟩
          walk_at "zs"
          exact ⟨rfl, rfl⟩
        walk_at "zs"
        refine ws_for (β := Int) (S := List Int) (ts := [5]) (fun _ ps => POk n wr ps) (fun ps => [some (dy (MR.mk 0)), some (dy n), some (dy (T3.mk wr rd la)), none, some (dy (Tp.mk ps)), none, none, none, none]) (fun _ => [cHand]) ?_
        refine wi_range ?_
        walk_at "zs"
        · intro r r0 r1
          walk_at "zs"
          refine ⟨r, rfl, r0, by omega, upto r.toNat, rfl, frs n.toNat, frs_ok wr, by walk_at "zcut", fun pre y post ps e hJ => ?_, fun ps hJ => ?_⟩
          · have pl := hJ.len
            have lal := hla.len
            walk_at "zs"
            · intro x x0 x1
              walk_at "zs"
              have hw : POk n wr ((nums ps).map fun q => if q.1 ∈ [x] then la.getD q.1.toNat 0 else q.2) := with_ok hla hJ [x]
              have hwl := hw.len
              refine tup_tp (α := Int) [x] rfl (by simp) ?_
              walk_at "zs"
              · refine ⟨fun t => ?_, fun t => ?_⟩
                · walk_at "zs"
                  exact ⟨_, hw, by walk_at "zcut"⟩
                · walk_at "zs"
                  exact ⟨ps, hJ, by walk_at "zcut"⟩
              · exact rl
              · omega
              · omega
              · exact r3
              · omega
              · omega
            · omega
            · omega
          · walk_at "zs"
            exact hP ps hJ
        · omega
        · omega
    all_goals decide

theorem u__law_plates {P : Dy → Mem → Prop} {n : Int} {wr : List Int} {rd : List (Tp Int)} {la : List Int} (h : ∀ ps : List Int, POk n wr ps → P (dy (Tp.mk ps)) [cHand]) (h1 : 1 ≤ n) (h2 : n ≤ 8) (h3 : wr.length ≤ 400) (h4 : ∀ x, x ∈ wr → 0 ≤ x ∧ x < n) (h5 : rd.length ≤ 400) (h6 : ∀ row, row ∈ rd → row.l.length ≤ 3) (h7 : POk n wr la) : sp__law_plates [dy (MR.mk 0), dy n, dy (T3.mk wr rd la)] [cHand] P := ⟨n, wr, rd, la, rfl, rfl, h1, h2, h3, h4, h5, h6, h7, h⟩
local macro_rules | `(tactic| walk_at "zu") => `(tactic| first
  | refine u_is_integer ?_
  | refine u_is_integer_th ?_
  | refine u_is_number_below ?_ ?_
  | refine u_is_number_below_th ?_
  | refine u_is_bits ?_
  | refine u_is_lot ?_ ?_
  | refine u_is_lot_of_cells ?_ ?_ ?_
  | refine u_is_kind ?_ ?_
  | refine u_is_journal ?_ ?_
  | refine u_check_journal ?_ ?_
  | refine u_fresh ?_ ?_ ?_
  | refine u_last_behind ?_ ?_ ?_
  | refine u_last_versions ?_ ?_ ?_
  | refine u_rows_behind ?_ ?_ ?_
  | refine u_source_rows ?_ ?_ ?_
  | refine u_is_version ?_ ?_ ?_ ?_ ?_
  | refine u_is_plates ?_ ?_ ?_ ?_
  | refine u_check_plates ?_ ?_ ?_ ?_
  | refine u_derived_marks ?_ ?_ ?_ ?_
  | refine u__law_is_int ?_ ?_ ?_
  | refine u__law_is_int_th ?_
  | refine u__law_flag ?_
  | refine u__law_history ?_ ?_ ?_
  | refine u__law_closure ?_ ?_ ?_ ?_
  | refine u__law_lost ?_ ?_ ?_ ?_ ?_
  | refine u__law_with ?_ ?_ ?_
  | refine u__law_draw ?_ ?_ ?_
  | refine u__law_any ?_ ?_ ?_
  | refine u__law_any_th ?_ ?_ ?_
  | refine u__law_kinds ?_ ?_ ?_ ?_ ?_
  | refine u__law_table ?_ ?_ ?_
  | refine u__law_journal ?_ ?_ ?_ ?_ ?_
  | refine u__law_versions ?_ ?_ ?_ ?_ ?_
  | refine u__law_plates ?_ ?_ ?_ ?_ ?_ ?_ ?_ ?_)
local macro_rules | `(tactic| walk_at "zs1") => `(tactic| first
  | walk_at "zq"
  | walk_at "zu"
  | walk_at "zb")
local macro_rules | `(tactic| walk_at "zs") => `(tactic| repeat walk_at "zs1")
end
end K03
end
section
set_option Elab.async false
set_option linter.all false
set_option maxRecDepth 100000
set_option maxHeartbeats 4000000
namespace K03
open PySem PySem.Spec PyProof.Rows L2 Zq K02
open C8 (Cal Mak pe_c pe_mk pe_gc)
local macro_rules | `(tactic| walk_at "zq") => `(tactic| first
  | with_reducible refine ws_seq ?_
  | with_reducible refine ws_asg ?_
  | (with_reducible apply ws_asgG)
  | with_reducible refine ws_next ?_
  | with_reducible refine ws_ret ?_
  | with_reducible refine ws_if ?_
  | with_reducible refine ws_drop (te := tCall _ _ _ _) ?_
  | with_reducible refine as_dy ?_
  | ((with_reducible apply we_var); focus rfl)
  | with_reducible refine we_int ?_
  | with_reducible refine we_bl ?_
  | with_reducible refine we_non ?_
  | with_reducible refine we_ty ?_
  | with_reducible refine we_str ?_
  | with_reducible refine we_op2 ?_
  | with_reducible refine we_neg ?_
  | with_reducible refine we_andV ?_
  | with_reducible refine we_orV ?_
  | with_reducible refine we_notV ?_
  | with_reducible refine we_chain ?_
  | with_reducible refine we_if ?_
  | with_reducible refine we_cb ?_
  | with_reducible refine tup_pair ?_
  | with_reducible refine tup_three ?_
  | with_reducible refine tup_nil ?_
  | with_reducible refine we_call ?_
  | with_reducible refine we_callD ?_
  | with_reducible refine we_tup ?_
  | refine we_cells (Tx.cl (by assumption)) (Tx.nc (by assumption)) ?_
  | refine we_kinds (Tx.cl (by assumption)) (Tx.nk (by assumption)) ?_
  | with_reducible refine wt_test ?_
  | with_reducible refine wt_B ?_
  | with_reducible refine wt_not ?_
  | with_reducible refine wt_and ?_
  | with_reducible refine wt_or ?_
  | with_reducible refine wt_yes ?_
  | with_reducible refine wa_cons ?_
  | with_reducible refine wa_nil ?_
  | with_reducible refine rr_II ?_
  | with_reducible refine rr_isTrue ?_
  | with_reducible refine rr_notTrue ?_
  | with_reducible refine rr_isN0 ?_
  | with_reducible refine rr_notN0 ?_
  | with_reducible refine rr_isN ?_
  | with_reducible refine rr_notN ?_
  | with_reducible refine rr_IB ?_
  | with_reducible refine rr_eqI ?_
  | with_reducible refine rr_neI ?_
  | with_reducible refine rr_eqB ?_
  | with_reducible refine rr_ixP0 ?_
  | with_reducible refine rr_ixP1 ?_
  | with_reducible refine rr_ix30 ?_
  | with_reducible refine rr_ix31 ?_
  | with_reducible refine rr_ix32 ?_
  | with_reducible refine rr_leK ?_
  | refine rr_eqD ?_
  | refine rr_neD ?_
  | with_reducible refine rr_inT ?_
  | with_reducible refine rr_ninT ?_
  | with_reducible refine rr_inL ?_
  | with_reducible refine rr_ninL ?_
  | with_reducible refine rc_isi kit_ii ?_
  | with_reducible refine rc_isi kit_ib ?_
  | with_reducible refine rc_isi kit_bb ?_
  | with_reducible refine rc_isi kit_tt ?_
  | refine rc_isInt (Tx.isi (by assumption)) ?_
  | refine rc_isBl (Tx.isi (by assumption)) ?_
  | refine rc_isTup (Tx.isi (by assumption)) ?_
  | refine rc_isStr (Tx.isi (by assumption)) ?_
  | with_reducible refine rc_lenL ?_
  | with_reducible refine rc_lenT ?_
  | with_reducible refine rc_lenP ?_
  | with_reducible refine rc_tupL ?_
  | refine rc_lenM rfl ?_
  | refine rc_tupM rfl ?_
  | ((with_reducible apply rr_inM); focus rfl)
  | ((with_reducible apply rr_ninM); focus rfl)
  | with_reducible refine rc_lstTC ?_
  | with_reducible apply wg_setM
  | refine ex_l rfl ?_
  | refine ex_d rfl ?_
  | with_reducible refine rc_int ?_
  | with_reducible refine rc_abs ?_
  | with_reducible refine rc_min2 ?_
  | with_reducible refine rc_all ?_
  | with_reducible refine rc_any ?_
  | with_reducible refine wg_name ?_
  | (apply wg_tup2)
  | (apply wg_tup3))
local macro_rules | `(tactic| walk_at "zqs") => `(tactic| repeat walk_at "zq")
local macro_rules | `(tactic| walk_at "zok1") => `(tactic| first
  | exact trivial
  | exact dy_ok _ _
  | exact cLst_ok _ _
  | exact cDic_ok _ _
  | exact hand_ok _
  | exact handX_ok
  | exact okM_nil
  | exact okE_nil
  | exact okDs_nil
  | refine okM_cons ?_ ?_
  | refine okDs_cons ?_ ?_
  | refine okE_none ?_
  | refine okE_cons ?_ ?_
  | exact mr_ok (Nat.le_of_ble_eq_true rfl)
  | exact Free.l _ _
  | exact Free.k _ _
  | exact Free.ok _ _
  | exact Frg.refl _
  | exact Frg.nil
  | refine Frg.same ?_
  | refine Frg.drop ?_)
local macro_rules | `(tactic| walk_at "zok") => `(tactic| repeat walk_at "zok1")
local macro_rules | `(tactic| walk_at "zcut") => `(tactic| exact Cut.mk (by walk_at "zok") (by walk_at "zok") (by walk_at "zok") rfl)
local macro_rules | `(tactic| walk_at "zb") => `(tactic| first
  | with_reducible refine bt_tt ?_
  | with_reducible refine bt_ff ?_
  | with_reducible refine bt_nt ?_
  | with_reducible refine bt_nf ?_
  | with_reducible refine bt_ft ?_
  | with_reducible refine bt_tf ?_
  | with_reducible refine bt_nt' ?_
  | with_reducible refine bt_nf' ?_
  | (with_reducible refine bt_t ?_ ?_
     focus (first | rfl | assumption))
  | (with_reducible refine bt_f ?_ ?_
     focus (first | rfl | assumption))
  | (with_reducible refine bt_t' ?_ ?_
     focus (first | rfl | assumption))
  | (with_reducible refine bt_f' ?_ ?_
     focus (first | rfl | assumption))
  | (refine ca5 ?_ ?_ ?_ ?_ ?_
     focus (first | rfl | decide)
     focus (first | exact Nat.zero_le _ | exact Nat.le_of_ble_eq_true rfl)
     focus (walk_at "zok"; done)
     focus (walk_at "zok"; done))
  | (refine ca3 ?_ ?_ ?_
     focus (walk_at "zok"; done)
     focus (walk_at "zok"; done)))

local macro_rules | `(tactic| walk_at "zu") => `(tactic| first
  | refine u_is_integer ?_
  | refine u_is_integer_th ?_
  | refine u_is_number_below ?_ ?_
  | refine u_is_number_below_th ?_
  | refine u_is_bits ?_
  | refine u_is_lot ?_ ?_
  | refine u_is_lot_of_cells ?_ ?_ ?_
  | refine u_is_kind ?_ ?_
  | refine u_is_journal ?_ ?_
  | refine u_check_journal ?_ ?_
  | refine u_fresh ?_ ?_ ?_
  | refine u_last_behind ?_ ?_ ?_
  | refine u_last_versions ?_ ?_ ?_
  | refine u_rows_behind ?_ ?_ ?_
  | refine u_source_rows ?_ ?_ ?_
  | refine u_is_version ?_ ?_ ?_ ?_ ?_
  | refine u_is_plates ?_ ?_ ?_ ?_
  | refine u_check_plates ?_ ?_ ?_ ?_
  | refine u_derived_marks ?_ ?_ ?_ ?_
  | refine u__law_is_int ?_ ?_ ?_
  | refine u__law_is_int_th ?_
  | refine u__law_flag ?_
  | refine u__law_history ?_ ?_ ?_
  | refine u__law_closure ?_ ?_ ?_ ?_
  | refine u__law_lost ?_ ?_ ?_ ?_ ?_
  | refine u__law_with ?_ ?_ ?_
  | refine u__law_draw ?_ ?_ ?_
  | refine u__law_any ?_ ?_ ?_
  | refine u__law_any_th ?_ ?_ ?_
  | refine u__law_kinds ?_ ?_ ?_ ?_ ?_
  | refine u__law_table ?_ ?_ ?_
  | refine u__law_journal ?_ ?_ ?_ ?_ ?_
  | refine u__law_versions ?_ ?_ ?_ ?_ ?_
  | refine u__law_plates ?_ ?_ ?_ ?_ ?_ ?_ ?_ ?_)
local macro_rules | `(tactic| walk_at "zs1") => `(tactic| first
  | walk_at "zq"
  | walk_at "zu"
  | walk_at "zb")
local macro_rules | `(tactic| walk_at "zs") => `(tactic| repeat walk_at "zs1")
section
variable {P : Program} {w : World} {c : Cc} {mg : Str → Option Value} {base : Heap}
/-- Table.__init__ -/
def sp_Table_init (c : Cc) : ASp := fun ds M P => ∃ (n : Int) (ks : List Zq.Kind), ds = [dy (MR.mk 0), dy n, dy (Tp.mk ks)] ∧ M = [cIns (c.cls "Table") 0 []] ∧ KsOk n ks ∧ P (dy ()) [cIns (c.cls "Table") 2 [(("kinds" : Str), dy (Tp.mk ks)), (("cells" : Str), dy n)]]
theorem sc_Table_init : FnScope ["self", "cells", "kinds", "at", "kind"] ["self", "cells", "kinds"] (defScope s_Table_init) := ⟨rfl, rfl, rfl, by decide +kernel, rfl, by decide +kernel, by decide +kernel⟩
theorem ok_Table_init {f : Addr} {fd : FuncData} (F : Fun c.K "__init__" "Table.__init__" s_Table_init f fd) (T : Tb mg) (X : Tx c) (g_is_integer : Cal P w c.K mg base 1 "is_integer" (spOf c 1 0 sp_is_integer) []) (g_is_kind : Cal P w c.K mg base 4 "is_kind" (spOf c 2 0 sp_is_kind) []) :
    FnOk P w c.K mg base CX0 5 f fd ["self", "cells", "kinds"] (spOf c 3 1 (sp_Table_init c)) := by
  refine F.ok sc_Table_init (fun vs H Q E h => ?_) (fun cdv A outer s H vs Q E hr h => ?_)
  · obtain ⟨as, F, ds, M, P, _, hn, _, rd, _⟩ := h
    rw [rd.length, hn]; rfl
  · have hu1 : (A.deeper (envOfC "Table.__init__" (defScope s_Table_init) s.heap.objs.size f cdv)).units + 1 < cLine := hu_of hr
    have hu8 : (A.deeper (envOfC "Table.__init__" (defScope s_Table_init) s.heap.objs.size f cdv)).units + 8 < cLine := by have := hr.un; omega
    have hu16 : (A.deeper (envOfC "Table.__init__" (defScope s_Table_init) s.heap.objs.size f cdv)).units + 16 < cLine := by have := hr.un; omega
    have hu64 : (A.deeper (envOfC "Table.__init__" (defScope s_Table_init) s.heap.objs.size f cdv)).units + 64 < cLine := by have := hr.un; omega
    have hu65 : (A.deeper (envOfC "Table.__init__" (defScope s_Table_init) s.heap.objs.size f cdv)).units + 65 < cLine := by have := hr.un; omega
    refine ⟨_, (pss_cons (ps_if (PW.pt (pw_or (pt_not (pt_val (pe_c g_is_integer hr (by decide) rfl (pa_cons (pv 1) pa_nil)))) (pw_or1 (pt_not (pt_chain op_le op_le pe_int (pv 1) (pe_gc (v := .int 8) rfl T.c_MOST_CELLS)))))) (pss_one ps_dead) pss_nil)
        (pss_cons (ps_if (PW.pt (pw_or (pt_not (pt_val (pe_callB (r := rIsi c.K) call_isi (by rfl) T.b_isinstance (by decide +kernel) (pa_cons (pv 2) (pa_cons (pe_bltn (v := .ty "tuple") rfl T.b_tuple (by decide +kernel) rfl) pa_nil))))) (pw_or1 (pt_not (pt_chain op_le op_le pe_int (pe_callB (r := Zq.rLen c.K) call_len_seq (by rfl) T.b_len (by decide +kernel) (pa_cons (pv 2) pa_nil)) (pe_gc (v := .int 40) rfl T.c_MOST_KINDS)))))) (pss_one ps_dead) pss_nil)
        (pss_cons (ps_for PassesOwn.never rfl (Zr.pi_enumT rfl T.b_enumerate (pa_cons (pv 2) pa_nil)) (pg_tup rfl (pgs_cons (pg_name (i := 3) sc_Table_init.nd rfl (Or.inl rfl)) (pgs_cons (pg_name (i := 4) sc_Table_init.nd rfl (Or.inl rfl)) pgs_nil))) (pss_cons (ps_if (pt_not (pt_val (pe_c g_is_kind hr (by decide) rfl (pa_cons (pv 1) (pa_cons (pv 4) pa_nil))))) (pss_one ps_dead) pss_nil)
        (pss_one (ps_if (PW.pt (pw_and (pt_cmpR op_gt (pv 3) pe_int (nomark _)) (pw_and1 (pt_cmpR (r := Zr.rLeK c.K) (Zr.op_leK hu8) (pv 4) (pe_ix (r := rIxT c.K) ix_tup (pv 2) (pe_op op_sub (pv 3) pe_int) (fun _ _ => rfl)) (nomark _))))) (pss_one ps_dead) pss_nil))))
        (pss_cons (ps_fld (pv 0) (pv 1) rfl)
        (pss_one (ps_fld (pv 0) (pv 2) rfl)))))), ?_⟩
    refine body_okN h (by decide) fun ds M R hds hM hS => ?_
    obtain ⟨n, ks, rfl, rfl, hk, hP⟩ := hS
    have n1 := hk.n1
    have n8 := hk.n8
    have e1 : decide (1 ≤ n) = true := decide_eq_true n1
    have e2 : (!decide (n ≤ 8)) = false := by rw [decide_eq_true n8]; rfl
    have e3 : decide (1 ≤ ((ks.length : Nat) : Int)) = true := decide_eq_true (by have := hk.k1; omega)
    have e4 : (!decide (((ks.length : Nat) : Int) ≤ 40)) = false := by rw [decide_eq_true (by have := hk.k40; omega)]; rfl
    show WS c 1 _ [some (dy (MR.mk 0)), some (dy n), some (dy (Tp.mk ks)), none, none] [cIns (c.cls "Table") 0 []] _ _
    walk_at "zs"
    refine ws_fold (S := Unit) (β := Int × Zq.Kind) ([3] ++ [4]) (fun _ _ => ()) () (fun _ => [some (dy (MR.mk 0)), some (dy n), some (dy (Tp.mk ks)), none, none]) (fun _ => [cIns (c.cls "Table") 0 []]) (fun _ _ => True) ?_
    refine wi_enumT (α := Zq.Kind) ?_
    walk_at "zs"
    refine ⟨⟨ks⟩, rfl, nums ks, rfl, trivial, ?_, fun pre y post s e hs hJ => ?_, fun s hs hJ => ?_⟩
    · exact Cut.mk (by walk_at "zok") (by walk_at "zok") ⟨fun f d h => (by cases h), trivial⟩ rfl
    · obtain ⟨h1, h2, h3, hm⟩ := nums_split e
      walk_at "zs"
      · refine ⟨fun q => ?_, fun q => ?_⟩
        · walk_at "zs"
          have q0 : 0 < y.1 := of_decide_eq_true q
          have hl : pre.length - 1 < ks.length := by omega
          have hlt : kbef ks[pre.length - 1] y.2 = true := by
            have := List.pairwise_iff_getElem.mp hk.asc (pre.length - 1) pre.length hl h2 (by omega)
            rw [List.getElem?_eq_getElem h2] at h3
            rw [← Option.some.inj h3]
            exact this
          refine rr_ixT (xs := Tp.mk ks) (by omega) (y := ks[pre.length - 1]) (by rw [h1, show ((pre.length : Int) - 1).toNat = pre.length - 1 by omega]; exact List.getElem?_eq_getElem hl) ?_
          walk_at "zs"
          rw [hlt]
          walk_at "zs"
          exact ⟨trivial, Cut.mk (by walk_at "zok") (by walk_at "zok") ⟨fun f d h => (by cases h), trivial⟩ rfl⟩
        · walk_at "zs"
          exact ⟨trivial, Cut.mk (by walk_at "zok") (by walk_at "zok") ⟨fun f d h => (by cases h), trivial⟩ rfl⟩
      · exact hk.at_ _ hm
    · walk_at "zs"
      refine ws_fld X.cl X.nc ?_
      walk_at "zs"
      refine ⟨_, _, rfl, by omega, ?_⟩
      refine ws_fld X.cl X.nk ?_
      walk_at "zs"
      refine ⟨_, _, rfl, by omega, ?_⟩
      refine ⟨⟨?_, trivial⟩, hP⟩
      intro f d h
      simp only [List.lookup] at h
      split at h
      · cases h; exact dy_ok _ _
      · split at h
        · cases h; exact dy_ok _ _
        · cases h

theorem u_Table_init {P : Dy → Mem → Prop} {c : Cc} {n : Int} {ks : List Zq.Kind} (h : P (dy ()) [cIns (c.cls "Table") 2 [(("kinds" : Str), dy (Tp.mk ks)), (("cells" : Str), dy n)]]) (h1 : KsOk n ks) : sp_Table_init c [dy (MR.mk 0), dy n, dy (Tp.mk ks)] [cIns (c.cls "Table") 0 []] P := ⟨n, ks, rfl, rfl, h1, h⟩
local macro_rules | `(tactic| walk_at "zu") => `(tactic| first
  | refine u_is_integer ?_
  | refine u_is_integer_th ?_
  | refine u_is_number_below ?_ ?_
  | refine u_is_number_below_th ?_
  | refine u_is_bits ?_
  | refine u_is_lot ?_ ?_
  | refine u_is_lot_of_cells ?_ ?_ ?_
  | refine u_is_kind ?_ ?_
  | refine u_is_journal ?_ ?_
  | refine u_check_journal ?_ ?_
  | refine u_fresh ?_ ?_ ?_
  | refine u_last_behind ?_ ?_ ?_
  | refine u_last_versions ?_ ?_ ?_
  | refine u_rows_behind ?_ ?_ ?_
  | refine u_source_rows ?_ ?_ ?_
  | refine u_is_version ?_ ?_ ?_ ?_ ?_
  | refine u_is_plates ?_ ?_ ?_ ?_
  | refine u_check_plates ?_ ?_ ?_ ?_
  | refine u_derived_marks ?_ ?_ ?_ ?_
  | refine u__law_is_int ?_ ?_ ?_
  | refine u__law_is_int_th ?_
  | refine u__law_flag ?_
  | refine u__law_history ?_ ?_ ?_
  | refine u__law_closure ?_ ?_ ?_ ?_
  | refine u__law_lost ?_ ?_ ?_ ?_ ?_
  | refine u__law_with ?_ ?_ ?_
  | refine u__law_draw ?_ ?_ ?_
  | refine u__law_any ?_ ?_ ?_
  | refine u__law_any_th ?_ ?_ ?_
  | refine u__law_kinds ?_ ?_ ?_ ?_ ?_
  | refine u__law_table ?_ ?_ ?_
  | refine u__law_journal ?_ ?_ ?_ ?_ ?_
  | refine u__law_versions ?_ ?_ ?_ ?_ ?_
  | refine u__law_plates ?_ ?_ ?_ ?_ ?_ ?_ ?_ ?_
  | refine u_Table_init ?_ ?_)
local macro_rules | `(tactic| walk_at "zs1") => `(tactic| first
  | walk_at "zq"
  | walk_at "zu"
  | walk_at "zb")
local macro_rules | `(tactic| walk_at "zs") => `(tactic| repeat walk_at "zs1")
theorem zip_fns (ks : List Zq.Kind) : ∀ (js : List Int) (l : List Th), ((js.zip l).all fun p => isBits (2 ^ (kat ks p.1).2.l.length) p.2) = fnsAll (js.map fun j => (kat ks j).2.l.length) l
  | [], l => by cases l <;> rfl
  | j :: js, [] => rfl
  | j :: js, x :: l => by
    rw [List.zip_cons_cons, List.all_cons, zip_fns ks js l]; rfl
/-- is_functions -/
def sp_is_functions : ASp := fun ds M P => ∃ (t : Tab) (js : List Int) (x : Th), ds = [dy t, dy (Tp.mk js), dy x] ∧ KsOk t.cells t.kinds.l ∧ JOk t.kinds.l js ∧ P (dy (isFns (hist t.cells t.kinds.l js).rd x)) M
theorem sc_is_functions : FnScope ["table", "journal", "thing", "kind", "bits", "reads"] ["table", "journal", "thing"] (defScope s_is_functions) := ⟨rfl, rfl, rfl, by decide +kernel, rfl, by decide +kernel, by decide +kernel⟩
theorem ok_is_functions {f : Addr} {fd : FuncData} (F : Fun c.K "is_functions" "is_functions" s_is_functions f fd) (T : Tb mg) (X : Tx c) (g_is_bits : Cal P w c.K mg base 3 "is_bits" (spOf c 2 0 sp_is_bits) []) :
    FnOk P w c.K mg base CX0 4 f fd ["table", "journal", "thing"] (spOf c 3 0 sp_is_functions) := by
  refine F.ok sc_is_functions (fun vs H Q E h => ?_) (fun cdv A outer s H vs Q E hr h => ?_)
  · obtain ⟨as, F, ds, M, P, _, hn, _, rd, _⟩ := h
    rw [rd.length, hn]; rfl
  · have hu1 : (A.deeper (envOfC "is_functions" (defScope s_is_functions) s.heap.objs.size f cdv)).units + 1 < cLine := hu_of hr
    have hu8 : (A.deeper (envOfC "is_functions" (defScope s_is_functions) s.heap.objs.size f cdv)).units + 8 < cLine := by have := hr.un; omega
    have hu16 : (A.deeper (envOfC "is_functions" (defScope s_is_functions) s.heap.objs.size f cdv)).units + 16 < cLine := by have := hr.un; omega
    have hu64 : (A.deeper (envOfC "is_functions" (defScope s_is_functions) s.heap.objs.size f cdv)).units + 64 < cLine := by have := hr.un; omega
    have hu65 : (A.deeper (envOfC "is_functions" (defScope s_is_functions) s.heap.objs.size f cdv)).units + 65 < cLine := by have := hr.un; omega
    refine ⟨_, (pss_cons (ps_if (PW.pt (pw_or (pt_not (pt_val (pe_callB (r := rIsi c.K) call_isi (by rfl) T.b_isinstance (by decide +kernel) (pa_cons (pv 2) (pa_cons (pe_bltn (v := .ty "tuple") rfl T.b_tuple (by decide +kernel) rfl) pa_nil))))) (pw_or1 (pt_cmpR op_ne (pe_callB (r := Zq.rLen c.K) call_len_seq (by rfl) T.b_len (by decide +kernel) (pa_cons (pv 2) pa_nil)) (pe_callB (r := Zq.rLen c.K) call_len_seq (by rfl) T.b_len (by decide +kernel) (pa_cons (pv 1) pa_nil)) (nomark _))))) (pss_one (ps_ret pe_bl)) pss_nil)
        (pss_cons (ps_for PassesOwn.never rfl (Zr.pi_zipX true true rfl T.b_zip (pa_cons (pv 1) (pa_cons (pv 2) pa_nil))) (pg_tup rfl (pgs_cons (pg_name (i := 3) sc_is_functions.nd rfl (Or.inl rfl)) (pgs_cons (pg_name (i := 4) sc_is_functions.nd rfl (Or.inl rfl)) pgs_nil))) (pss_cons (ps_set (i := 5) sc_is_functions.nd rfl (Or.inl rfl) (pe_ix (r := rIxT c.K) ix_tup (pe_ix (r := rIxT c.K) ix_tup (pe_fld (pv 0) rfl) (pv 3) (fun _ _ => rfl)) pe_int (fun _ _ => rfl)))
        (pss_one (ps_if (pt_not (pt_val (pe_c g_is_bits hr (by decide) rfl (pa_cons (pe_op op_shl pe_int (pe_callB (r := Zq.rLen c.K) call_len_seq (by rfl) T.b_len (by decide +kernel) (pa_cons (pv 5) pa_nil))) (pa_cons (pv 4) pa_nil))))) (pss_one (ps_ret pe_bl)) pss_nil))))
        (pss_one (ps_ret pe_bl)))), ?_⟩
    refine body_ok h (by decide) fun ds M R hds hM hS => ?_
    obtain ⟨t, js, x, rfl, hk, hj, hP⟩ := hS
    obtain rfl := List.length_eq_zero_iff.mp hM
    show WS c 0 _ [some (dy t), some (dy (Tp.mk js)), some (dy x), none, none, none] [] _ _
    have o := hok hk js hj.at_
    cases x with
    | tup l =>
      rw [th_tup]
      walk_at "zs"
      by_cases hn : l.length = js.length
      · have e1 : (!decide (((l.length : Nat) : Int) = ((js.length : Nat) : Int))) = false := by rw [hn]; simp
        have hP' : R (dy ((js.zip l).all fun p => isBits (2 ^ (kat t.kinds.l p.1).2.l.length) p.2)) [] := by
          have : isFns (hist t.cells t.kinds.l js).rd (.tup l) = ((js.zip l).all fun p => isBits (2 ^ (kat t.kinds.l p.1).2.l.length) p.2) := by
            show (decide (l.length = (hist t.cells t.kinds.l js).rd.length) && fnsAll ((hist t.cells t.kinds.l js).rd.map fun r => r.l.length) l) = _
            rw [zip_fns, rd_lens, o.rl, decide_eq_true hn]; rfl
          rw [← this]; exact hP
        walk_at "zs"
        refine ws_for (S := Unit) (β := Int × Th) (ts := [3] ++ [4]) (fun pre _ => (pre.all fun p => isBits (2 ^ (kat t.kinds.l p.1).2.l.length) p.2) = true) (fun _ => [some (dy t), some (dy (Tp.mk js)), some (dy (Tp.mk l)), none, none, none]) (fun _ => []) ?_
        refine wi_zipTT (α := Int) (β := Th) ?_
        walk_at "zs"
        refine ⟨⟨js⟩, ⟨l⟩, rfl, js.zip l, rfl, (), rfl, by walk_at "zcut", fun pre y post s e hJ => ?_, fun s hJ => ?_⟩
        · have hm : y.1 ∈ js := (List.of_mem_zip (show (y.1, y.2) ∈ js.zip l by rw [e]; simp)).1
          have ok := hj.ok hk hm
          walk_at "zs"
          refine rr_ixT (hj.at_ _ hm).1 (hj.get hm) ?_
          walk_at "zs"
          refine rr_shl ?_ ⟨by omega, by have := ok.len; omega, by decide⟩
          have e2 : (1 : Int) * 2 ^ (((kat t.kinds.l y.1).2.l.length : Nat) : Int).toNat = 2 ^ (kat t.kinds.l y.1).2.l.length := by rw [Int.one_mul, Int.toNat_natCast]
          rw [e2]
          walk_at "zs"
          cases hb : isBits (2 ^ (kat t.kinds.l y.1).2.l.length) y.2 with
          | true =>
            walk_at "zs"
            exact ⟨(), by rw [List.all_append, hJ]; simp [hb], by walk_at "zcut"⟩
          | false =>
            have : ((js.zip l).all fun p => isBits (2 ^ (kat t.kinds.l p.1).2.l.length) p.2) = false := by rw [e, List.all_append, List.all_cons, hb]; simp
            rw [this] at hP'
            walk_at "zs"
            exact hP'
        · walk_at "zs"
          rw [hJ] at hP'
          exact hP'
      · have e1 : (!decide (((l.length : Nat) : Int) = ((js.length : Nat) : Int))) = true := by rw [decide_eq_false (by omega)]; rfl
        have hP' : R (dy false) [] := by
          have : isFns (hist t.cells t.kinds.l js).rd (.tup l) = false := by
            show (decide (l.length = (hist t.cells t.kinds.l js).rd.length) && fnsAll ((hist t.cells t.kinds.l js).rd.map fun r => r.l.length) l) = _
            rw [o.rl, decide_eq_false hn]; rfl
          rw [← this]; exact hP
        walk_at "zs"
        exact hP'
    | _ =>
      walk_at "zs"
      exact hP

theorem u_is_functions {M : Mem} {P : Dy → Mem → Prop} {t : Tab} {js : List Int} {x : Th} (h : P (dy (isFns (hist t.cells t.kinds.l js).rd x)) M) (h1 : KsOk t.cells t.kinds.l) (h2 : JOk t.kinds.l js) : sp_is_functions [dy t, dy (Tp.mk js), dy x] M P := ⟨t, js, x, rfl, h1, h2, h⟩
local macro_rules | `(tactic| walk_at "zu") => `(tactic| first
  | refine u_is_integer ?_
  | refine u_is_integer_th ?_
  | refine u_is_number_below ?_ ?_
  | refine u_is_number_below_th ?_
  | refine u_is_bits ?_
  | refine u_is_lot ?_ ?_
  | refine u_is_lot_of_cells ?_ ?_ ?_
  | refine u_is_kind ?_ ?_
  | refine u_is_journal ?_ ?_
  | refine u_check_journal ?_ ?_
  | refine u_fresh ?_ ?_ ?_
  | refine u_last_behind ?_ ?_ ?_
  | refine u_last_versions ?_ ?_ ?_
  | refine u_rows_behind ?_ ?_ ?_
  | refine u_source_rows ?_ ?_ ?_
  | refine u_is_version ?_ ?_ ?_ ?_ ?_
  | refine u_is_plates ?_ ?_ ?_ ?_
  | refine u_check_plates ?_ ?_ ?_ ?_
  | refine u_derived_marks ?_ ?_ ?_ ?_
  | refine u__law_is_int ?_ ?_ ?_
  | refine u__law_is_int_th ?_
  | refine u__law_flag ?_
  | refine u__law_history ?_ ?_ ?_
  | refine u__law_closure ?_ ?_ ?_ ?_
  | refine u__law_lost ?_ ?_ ?_ ?_ ?_
  | refine u__law_with ?_ ?_ ?_
  | refine u__law_draw ?_ ?_ ?_
  | refine u__law_any ?_ ?_ ?_
  | refine u__law_any_th ?_ ?_ ?_
  | refine u__law_kinds ?_ ?_ ?_ ?_ ?_
  | refine u__law_table ?_ ?_ ?_
  | refine u__law_journal ?_ ?_ ?_ ?_ ?_
  | refine u__law_versions ?_ ?_ ?_ ?_ ?_
  | refine u__law_plates ?_ ?_ ?_ ?_ ?_ ?_ ?_ ?_
  | refine u_Table_init ?_ ?_
  | refine u_is_functions ?_ ?_ ?_)
local macro_rules | `(tactic| walk_at "zs1") => `(tactic| first
  | walk_at "zq"
  | walk_at "zu"
  | walk_at "zb")
local macro_rules | `(tactic| walk_at "zs") => `(tactic| repeat walk_at "zs1")
theorem u_is_functions_ty {M : Mem} {P : Dy → Mem → Prop} {t : Tab} {js : List Int} {fs : List Fn} (h : P (dy true) M) (h1 : KsOk t.cells t.kinds.l) (h2 : JOk t.kinds.l js) (h3 : FnsOk (hist t.cells t.kinds.l js).rd fs) : sp_is_functions [dy t, dy (Tp.mk js), dy (Tp.mk fs)] M P := ⟨t, js, IsTh.to (Tp.mk fs), by rw [IsTh.eq], h1, h2, by rw [(fns_to h3).1]; exact h⟩
local macro_rules | `(tactic| walk_at "zu") => `(tactic| first
  | refine u_is_integer ?_
  | refine u_is_integer_th ?_
  | refine u_is_number_below ?_ ?_
  | refine u_is_number_below_th ?_
  | refine u_is_bits ?_
  | refine u_is_lot ?_ ?_
  | refine u_is_lot_of_cells ?_ ?_ ?_
  | refine u_is_kind ?_ ?_
  | refine u_is_journal ?_ ?_
  | refine u_check_journal ?_ ?_
  | refine u_fresh ?_ ?_ ?_
  | refine u_last_behind ?_ ?_ ?_
  | refine u_last_versions ?_ ?_ ?_
  | refine u_rows_behind ?_ ?_ ?_
  | refine u_source_rows ?_ ?_ ?_
  | refine u_is_version ?_ ?_ ?_ ?_ ?_
  | refine u_is_plates ?_ ?_ ?_ ?_
  | refine u_check_plates ?_ ?_ ?_ ?_
  | refine u_derived_marks ?_ ?_ ?_ ?_
  | refine u__law_is_int ?_ ?_ ?_
  | refine u__law_is_int_th ?_
  | refine u__law_flag ?_
  | refine u__law_history ?_ ?_ ?_
  | refine u__law_closure ?_ ?_ ?_ ?_
  | refine u__law_lost ?_ ?_ ?_ ?_ ?_
  | refine u__law_with ?_ ?_ ?_
  | refine u__law_draw ?_ ?_ ?_
  | refine u__law_any ?_ ?_ ?_
  | refine u__law_any_th ?_ ?_ ?_
  | refine u__law_kinds ?_ ?_ ?_ ?_ ?_
  | refine u__law_table ?_ ?_ ?_
  | refine u__law_journal ?_ ?_ ?_ ?_ ?_
  | refine u__law_versions ?_ ?_ ?_ ?_ ?_
  | refine u__law_plates ?_ ?_ ?_ ?_ ?_ ?_ ?_ ?_
  | refine u_Table_init ?_ ?_
  | refine u_is_functions ?_ ?_ ?_
  | refine u_is_functions_ty ?_ ?_ ?_ ?_)
local macro_rules | `(tactic| walk_at "zs1") => `(tactic| first
  | walk_at "zq"
  | walk_at "zu"
  | walk_at "zb")
local macro_rules | `(tactic| walk_at "zs") => `(tactic| repeat walk_at "zs1")
theorem u_is_bits_ty {M : Mem} {P : Dy → Mem → Prop} {n : Int} {b : List Int} (h : P (dy true) M) (h1 : BegOk n b) (h2 : 0 ≤ n) : sp_is_bits [dy n, dy (Tp.mk b)] M P := ⟨n, IsTh.to (Tp.mk b), by rw [IsTh.eq], by rw [(bits_to h1 h2).1]; exact h⟩
local macro_rules | `(tactic| walk_at "zu") => `(tactic| first
  | refine u_is_integer ?_
  | refine u_is_integer_th ?_
  | refine u_is_number_below ?_ ?_
  | refine u_is_number_below_th ?_
  | refine u_is_bits ?_
  | refine u_is_lot ?_ ?_
  | refine u_is_lot_of_cells ?_ ?_ ?_
  | refine u_is_kind ?_ ?_
  | refine u_is_journal ?_ ?_
  | refine u_check_journal ?_ ?_
  | refine u_fresh ?_ ?_ ?_
  | refine u_last_behind ?_ ?_ ?_
  | refine u_last_versions ?_ ?_ ?_
  | refine u_rows_behind ?_ ?_ ?_
  | refine u_source_rows ?_ ?_ ?_
  | refine u_is_version ?_ ?_ ?_ ?_ ?_
  | refine u_is_plates ?_ ?_ ?_ ?_
  | refine u_check_plates ?_ ?_ ?_ ?_
  | refine u_derived_marks ?_ ?_ ?_ ?_
  | refine u__law_is_int ?_ ?_ ?_
  | refine u__law_is_int_th ?_
  | refine u__law_flag ?_
  | refine u__law_history ?_ ?_ ?_
  | refine u__law_closure ?_ ?_ ?_ ?_
  | refine u__law_lost ?_ ?_ ?_ ?_ ?_
  | refine u__law_with ?_ ?_ ?_
  | refine u__law_draw ?_ ?_ ?_
  | refine u__law_any ?_ ?_ ?_
  | refine u__law_any_th ?_ ?_ ?_
  | refine u__law_kinds ?_ ?_ ?_ ?_ ?_
  | refine u__law_table ?_ ?_ ?_
  | refine u__law_journal ?_ ?_ ?_ ?_ ?_
  | refine u__law_versions ?_ ?_ ?_ ?_ ?_
  | refine u__law_plates ?_ ?_ ?_ ?_ ?_ ?_ ?_ ?_
  | refine u_Table_init ?_ ?_
  | refine u_is_functions ?_ ?_ ?_
  | refine u_is_functions_ty ?_ ?_ ?_ ?_
  | refine u_is_bits_ty ?_ ?_ ?_)
local macro_rules | `(tactic| walk_at "zs1") => `(tactic| first
  | walk_at "zq"
  | walk_at "zu"
  | walk_at "zb")
local macro_rules | `(tactic| walk_at "zs") => `(tactic| repeat walk_at "zs1")
/-- bits_by_version -/
def sp_bits_by_version : ASp := fun ds M P => ∃ (t : Tab) (js : List Int) (fs : List Fn) (b : List Int), ds = [dy t, dy (Tp.mk js), dy (Tp.mk fs), dy (Tp.mk b)] ∧ KsOk t.cells t.kinds.l ∧ JOk t.kinds.l js ∧ FnsOk (hist t.cells t.kinds.l js).rd fs ∧ BegOk t.cells b ∧ P (dy (Dc.mk (bitsD (hist t.cells t.kinds.l js).rd fs b))) M
theorem sc_bits_by_version : FnScope ["table", "journal", "functions", "begin", "bits", "deed", "row", "number", "version", "cell", "bit"] ["table", "journal", "functions", "begin"] (defScope s_bits_by_version) := ⟨rfl, rfl, rfl, by decide +kernel, rfl, by decide +kernel, by decide +kernel⟩
theorem ok_bits_by_version {f : Addr} {fd : FuncData} (F : Fun c.K "bits_by_version" "bits_by_version" s_bits_by_version f fd) (T : Tb mg) (X : Tx c) (g_source_rows : Cal P w c.K mg base 2 "source_rows" (spOf c 2 0 sp_source_rows) []) :
    FnOk P w c.K mg base CX0 3 f fd ["table", "journal", "functions", "begin"] (spOf c 4 0 sp_bits_by_version) := by
  refine F.ok sc_bits_by_version (fun vs H Q E h => ?_) (fun cdv A outer s H vs Q E hr h => ?_)
  · obtain ⟨as, F, ds, M, P, _, hn, _, rd, _⟩ := h
    rw [rd.length, hn]; rfl
  · have hu1 : (A.deeper (envOfC "bits_by_version" (defScope s_bits_by_version) s.heap.objs.size f cdv)).units + 1 < cLine := hu_of hr
    have hu8 : (A.deeper (envOfC "bits_by_version" (defScope s_bits_by_version) s.heap.objs.size f cdv)).units + 8 < cLine := by have := hr.un; omega
    have hu16 : (A.deeper (envOfC "bits_by_version" (defScope s_bits_by_version) s.heap.objs.size f cdv)).units + 16 < cLine := by have := hr.un; omega
    have hu64 : (A.deeper (envOfC "bits_by_version" (defScope s_bits_by_version) s.heap.objs.size f cdv)).units + 64 < cLine := by have := hr.un; omega
    have hu65 : (A.deeper (envOfC "bits_by_version" (defScope s_bits_by_version) s.heap.objs.size f cdv)).units + 65 < cLine := by have := hr.un; omega
    refine ⟨_, (pss_cons (Zr.ps_setDc (i := 4) (own := [("cell", 9), ("bit", 10)]) (g := (gTup c.K 2 (gCons (gName 9) (gCons (gName 10) gNil)))) rfl sc_bits_by_version.nd rfl rfl (Zr.swD_true rfl rfl rfl (by decide +kernel)) (Zr.pi_enumT rfl T.b_enumerate (pa_cons (pv 3) pa_nil)) (blkOk_by (N := ["table", "journal", "functions", "begin", "bits", "deed", "row", "number", "version", "cell", "bit"]) (sc := defScope s_bits_by_version) (by decide +kernel)) (fun _ _ _ _ _ => (pg_tup rfl (pgs_cons (pg_name (i := 9) sc_bits_by_version.nd rfl (Or.inl rfl)) (pgs_cons (pg_name (i := 10) sc_bits_by_version.nd rfl (Or.inl rfl)) pgs_nil)))) (fun _ _ _ _ _ => pts_nil) (fun _ _ _ _ _ => (pe_op op_sub (pe_un un_neg pe_int) (pv 9))) (fun _ _ _ _ _ => (pv 10)))
        (pss_cons (ps_for PassesOwn.never rfl (pi_enum rfl T.b_enumerate (pa_cons (pe_c g_source_rows hr (by decide) rfl (pa_cons (pv 0) (pa_cons (pv 1) pa_nil))) pa_nil)) (pg_tup rfl (pgs_cons (pg_name (i := 5) sc_bits_by_version.nd rfl (Or.inl rfl)) (pgs_cons (pg_name (i := 6) sc_bits_by_version.nd rfl (Or.inl rfl)) pgs_nil))) (pss_cons (ps_set (i := 7) sc_bits_by_version.nd rfl (Or.inl rfl) pe_int)
        (pss_cons (ps_for PassesOwn.never rfl (pi_tup (pv 6)) (pg_name (i := 8) sc_bits_by_version.nd rfl (Or.inl rfl)) (pss_one (ps_set (i := 7) sc_bits_by_version.nd rfl (Or.inl rfl) (pe_op op_add (pe_op op_mul (pv 7) pe_int) (pe_dget hu1 (pv 4) (pv 8) (fun _ _ => rfl))))))
        (pss_one (ps_dput hu1 (pv 4) (pv 5) (pe_ix (r := rIxT c.K) ix_tup (pe_ix (r := rIxT c.K) ix_tup (pv 2) (pv 5) (fun _ _ => rfl)) (pv 7) (fun _ _ => rfl)) rfl)))))
        (pss_one (ps_ret (pv 4))))), ?_⟩
    refine body_ok h (by decide) fun ds M R hds hM hS => ?_
    obtain ⟨t, js, fs, b, rfl, hk, hj, hf, hb, hP⟩ := hS
    obtain rfl := List.length_eq_zero_iff.mp hM
    show WS c 0 _ [some (dy t), some (dy (Tp.mk js)), some (dy (Tp.mk fs)), some (dy (Tp.mk b)), none, none, none, none, none, none, none] [] _ _
    have o := hok hk js hj.at_
    have n1 := hk.n1
    have n8 := hk.n8
    have bl := hb.len
    have jl := hj.len
    have rok := rd_ok hk js hj
    walk_at "zs"
    refine we_dcF (β := Int × Int) (γ := Int) ([9] ++ [10]) (fun q => -1 - q.1) (fun q => q.2) (fun t ht => ht) ?_
    refine wi_enumT (α := Int) ?_
    walk_at "zs"
    refine ⟨⟨b⟩, rfl, rfl, nums b, rfl, by rw [nums_len]; omega, fun y hy acc => ?_, ?_⟩
    · walk_at "zs"
      refine ⟨rfl, ?_⟩
      walk_at "zs"
      refine ⟨rfl, ?_⟩
      walk_at "zs"
      exact ⟨rfl, rfl⟩
    have e0 : ((nums b).foldl (fun m y => dput m (-1 - y.1) y.2) []) = beg b := rfl
    rw [e0]
    walk_at "zs"
    refine ws_fold (β := Int × Tp Int) ([5] ++ [6]) (bstep fs) (beg b) (fun _ => [some (dy t), some (dy (Tp.mk js)), some (dy (Tp.mk fs)), some (dy (Tp.mk b)), some (dy (MR.mk 0)), none, none, none, none, none, none]) (fun s => [cDic s]) (fun pre s => DOk t.cells pre.length s) ?_
    refine wi_enumL (α := Tp Int) ?_
    walk_at "zs"
    · refine ⟨_, rfl, nums (hist t.cells t.kinds.l js).rd, rfl, dok0 (by omega) hb, by walk_at "zcut", fun pre y post s e hs hJ => ?_, fun s hs hJ => ?_⟩
      · obtain ⟨h1, h2, h4, hm⟩ := nums_split e
        have row := rok.at_ _ _ h4
        have q := fn_in hf h4 hJ.b
        have st := dok_step hf h4 hJ
        walk_at "zs"
        refine ws_fold (β := Int) ([8]) (fun a v => a * 2 + bit s v) 0 (fun a => [some (dy t), some (dy (Tp.mk js)), some (dy (Tp.mk fs)), some (dy (Tp.mk b)), some (dy (MR.mk 0)), some (dy y.1), some (dy y.2), some (dy a), none, none, none]) (fun _ => [cDic s]) (fun _ _ => True) ?_
        refine wi_tup (α := Int) ?_
        walk_at "zs"
        refine ⟨_, rfl, y.2.l, rfl, trivial, by walk_at "zcut", fun pre2 v post2 a e2 hs2 hJ2 => ?_, fun a hs2 hJ2 => ?_⟩
        · have bv := row.2 v (by rw [e2]; simp)
          walk_at "zs"
          refine rr_mulR ?_ ⟨by decide, by decide⟩
          walk_at "zs"
          refine we_dgetM (β := Int) ?_
          walk_at "zs"
          refine ⟨s, bit s v, rfl, hJ.get bv.1 (by omega), ?_⟩
          walk_at "zs"
          exact ⟨trivial, by walk_at "zcut"⟩
        · obtain ⟨g, g1, g2, g3, g4⟩ := q
          have ea : a = num s y.2.l := hs2
          subst ea
          walk_at "zs"
          refine ws_dput (β := Int) ?_
          walk_at "zs"
          refine rr_ixT (xs := Tp.mk fs) (y := g) (by omega) (by rw [h1, Int.toNat_natCast]; exact g1) ?_
          walk_at "zs"
          refine rr_ixT g3 g2 ?_
          have e5 : dput s y.1 (fnAt fs ((pre.length : Nat) : Int) (num s y.2.l)) = bstep fs s y := by unfold bstep; rw [h1]
          walk_at "zs"
          rw [e5]
          refine ⟨hJ.keys, by have := hJ.len; have := o.rl; omega, ?_, by walk_at "zcut"⟩
          have e6 : y = (((pre.length : Nat) : Int), y.2) := by rw [← h1]
          rw [List.length_append, e6]
          exact st
      · refine ws_retD (β := Int) ?_
        walk_at "zs"
        exact ⟨_, Nat.zero_le _, rfl, Free.k _ _, trivial, by rw [hs]; exact hP⟩
    · exact hk
    · exact hj

theorem u_bits_by_version {M : Mem} {P : Dy → Mem → Prop} {t : Tab} {js : List Int} {fs : List Fn} {b : List Int} (h : P (dy (Dc.mk (bitsD (hist t.cells t.kinds.l js).rd fs b))) M) (h1 : KsOk t.cells t.kinds.l) (h2 : JOk t.kinds.l js) (h3 : FnsOk (hist t.cells t.kinds.l js).rd fs) (h4 : BegOk t.cells b) : sp_bits_by_version [dy t, dy (Tp.mk js), dy (Tp.mk fs), dy (Tp.mk b)] M P := ⟨t, js, fs, b, rfl, h1, h2, h3, h4, h⟩
local macro_rules | `(tactic| walk_at "zu") => `(tactic| first
  | refine u_is_integer ?_
  | refine u_is_integer_th ?_
  | refine u_is_number_below ?_ ?_
  | refine u_is_number_below_th ?_
  | refine u_is_bits ?_
  | refine u_is_lot ?_ ?_
  | refine u_is_lot_of_cells ?_ ?_ ?_
  | refine u_is_kind ?_ ?_
  | refine u_is_journal ?_ ?_
  | refine u_check_journal ?_ ?_
  | refine u_fresh ?_ ?_ ?_
  | refine u_last_behind ?_ ?_ ?_
  | refine u_last_versions ?_ ?_ ?_
  | refine u_rows_behind ?_ ?_ ?_
  | refine u_source_rows ?_ ?_ ?_
  | refine u_is_version ?_ ?_ ?_ ?_ ?_
  | refine u_is_plates ?_ ?_ ?_ ?_
  | refine u_check_plates ?_ ?_ ?_ ?_
  | refine u_derived_marks ?_ ?_ ?_ ?_
  | refine u__law_is_int ?_ ?_ ?_
  | refine u__law_is_int_th ?_
  | refine u__law_flag ?_
  | refine u__law_history ?_ ?_ ?_
  | refine u__law_closure ?_ ?_ ?_ ?_
  | refine u__law_lost ?_ ?_ ?_ ?_ ?_
  | refine u__law_with ?_ ?_ ?_
  | refine u__law_draw ?_ ?_ ?_
  | refine u__law_any ?_ ?_ ?_
  | refine u__law_any_th ?_ ?_ ?_
  | refine u__law_kinds ?_ ?_ ?_ ?_ ?_
  | refine u__law_table ?_ ?_ ?_
  | refine u__law_journal ?_ ?_ ?_ ?_ ?_
  | refine u__law_versions ?_ ?_ ?_ ?_ ?_
  | refine u__law_plates ?_ ?_ ?_ ?_ ?_ ?_ ?_ ?_
  | refine u_Table_init ?_ ?_
  | refine u_is_functions ?_ ?_ ?_
  | refine u_is_functions_ty ?_ ?_ ?_ ?_
  | refine u_is_bits_ty ?_ ?_ ?_
  | refine u_bits_by_version ?_ ?_ ?_ ?_ ?_)
local macro_rules | `(tactic| walk_at "zs1") => `(tactic| first
  | walk_at "zq"
  | walk_at "zu"
  | walk_at "zb")
local macro_rules | `(tactic| walk_at "zs") => `(tactic| repeat walk_at "zs1")
/-- bits_of -/
def sp_bits_of : ASp := fun ds M P => ∃ (t : Tab) (js : List Int) (fs : List Fn) (b : List Int), ds = [dy t, dy (Tp.mk js), dy (Tp.mk fs), dy (Tp.mk b)] ∧ KsOk t.cells t.kinds.l ∧ JOk t.kinds.l js ∧ FnsOk (hist t.cells t.kinds.l js).rd fs ∧ BegOk t.cells b ∧ P (dy (Tp.mk ((upto js.length).map fun d => bit (bitsD (hist t.cells t.kinds.l js).rd fs b) d))) M
theorem sc_bits_of : FnScope ["table", "journal", "functions", "begin", "bits", "deed"] ["table", "journal", "functions", "begin"] (defScope s_bits_of) := ⟨rfl, rfl, rfl, by decide +kernel, rfl, by decide +kernel, by decide +kernel⟩
theorem ok_bits_of {f : Addr} {fd : FuncData} (F : Fun c.K "bits_of" "bits_of" s_bits_of f fd) (T : Tb mg) (X : Tx c) (g_check_journal : Cal P w c.K mg base 4 "check_journal" (spOf c 2 0 sp_check_journal) []) (g_is_bits : Cal P w c.K mg base 3 "is_bits" (spOf c 2 0 sp_is_bits) []) (g_is_functions : Cal P w c.K mg base 4 "is_functions" (spOf c 3 0 sp_is_functions) []) (g_bits_by_version : Cal P w c.K mg base 3 "bits_by_version" (spOf c 4 0 sp_bits_by_version) []) :
    FnOk P w c.K mg base CX0 5 f fd ["table", "journal", "functions", "begin"] (spOf c 4 0 sp_bits_of) := by
  refine F.ok sc_bits_of (fun vs H Q E h => ?_) (fun cdv A outer s H vs Q E hr h => ?_)
  · obtain ⟨as, F, ds, M, P, _, hn, _, rd, _⟩ := h
    rw [rd.length, hn]; rfl
  · have hu1 : (A.deeper (envOfC "bits_of" (defScope s_bits_of) s.heap.objs.size f cdv)).units + 1 < cLine := hu_of hr
    have hu8 : (A.deeper (envOfC "bits_of" (defScope s_bits_of) s.heap.objs.size f cdv)).units + 8 < cLine := by have := hr.un; omega
    have hu16 : (A.deeper (envOfC "bits_of" (defScope s_bits_of) s.heap.objs.size f cdv)).units + 16 < cLine := by have := hr.un; omega
    have hu64 : (A.deeper (envOfC "bits_of" (defScope s_bits_of) s.heap.objs.size f cdv)).units + 64 < cLine := by have := hr.un; omega
    have hu65 : (A.deeper (envOfC "bits_of" (defScope s_bits_of) s.heap.objs.size f cdv)).units + 65 < cLine := by have := hr.un; omega
    refine ⟨_, (pss_cons (ps_expr (pe_c g_check_journal hr (by decide) rfl (pa_cons (pv 0) (pa_cons (pv 1) pa_nil))))
        (pss_cons (ps_if (PW.pt (pw_or (pt_not (pt_val (pe_c g_is_functions hr (by decide) rfl (pa_cons (pv 0) (pa_cons (pv 1) (pa_cons (pv 2) pa_nil)))))) (pw_or1 (pt_not (pt_val (pe_c g_is_bits hr (by decide) rfl (pa_cons (pe_fld (pv 0) rfl) (pa_cons (pv 3) pa_nil)))))))) (pss_one ps_dead) pss_nil)
        (pss_cons (ps_set (i := 4) sc_bits_of.nd rfl (Or.inr rfl) (pe_c g_bits_by_version hr (by decide) rfl (pa_cons (pv 0) (pa_cons (pv 1) (pa_cons (pv 2) (pa_cons (pv 3) pa_nil))))))
        (pss_one (ps_ret (pe_callTy (r := Zq.rTup c.K) call_tuple_of (by rfl) T.b_tuple (by decide +kernel) (pa_cons (pe_lc (own := [("deed", 5)]) (g := (gName 5)) rfl sc_bits_of.nd (pi_range1 rfl T.b_range (pa_cons (pe_callB (r := Zq.rLen c.K) call_len_seq (by rfl) T.b_len (by decide +kernel) (pa_cons (pv 1) pa_nil)) pa_nil)) (blkOk_by (N := ["table", "journal", "functions", "begin", "bits", "deed"]) (sc := defScope s_bits_of) (by decide +kernel)) (fun _ _ _ _ _ => (pg_name (i := 5) sc_bits_of.nd rfl (Or.inl rfl))) (fun _ _ _ _ _ => pts_nil) (fun _ _ _ _ _ => (pe_dget hu1 (pv 4) (pv 5) (fun _ _ => rfl)))) pa_nil))))))), ?_⟩
    refine body_ok h (by decide) fun ds M R hds hM hS => ?_
    obtain ⟨t, js, fs, b, rfl, hk, hj, hf, hb, hP⟩ := hS
    obtain rfl := List.length_eq_zero_iff.mp hM
    show WS c 0 _ [some (dy t), some (dy (Tp.mk js)), some (dy (Tp.mk fs)), some (dy (Tp.mk b)), none, none] [] _ _
    have n1 := hk.n1
    have jl := hj.len
    have rok := rd_ok hk js hj
    have o := hok hk js hj.at_
    have dd := dok rok hf hb
    rw [o.rl] at dd
    walk_at "zs"
    · refine we_lcM (β := Int) (γ := Int) [5] (fun d => bit (bitsD (hist t.cells t.kinds.l js).rd fs b) d) (fun t ht => ht) (by walk_at "zok") ?_
      refine wi_range ?_
      walk_at "zs"
      refine ⟨_, rfl, by omega, by show ((js.length : Nat) : Int) ≤ _; omega, rfl, upto js.length, rfl, by rw [upto_len]; omega, fun y hy acc => ?_, ?_⟩
      · have by_ := upto_mem.mp hy
        walk_at "zs"
        refine ⟨rfl, ?_⟩
        refine we_dgetF (β := Int) ?_
        walk_at "zs"
        exact ⟨_, dd.get (by omega) by_.2, rfl, rfl⟩
      · walk_at "zs"
        exact hP
    all_goals first | assumption | (show (0 : Int) ≤ t.cells; omega)

theorem u_bits_of {M : Mem} {P : Dy → Mem → Prop} {t : Tab} {js : List Int} {fs : List Fn} {b : List Int} (h : P (dy (Tp.mk ((upto js.length).map fun d => bit (bitsD (hist t.cells t.kinds.l js).rd fs b) d))) M) (h1 : KsOk t.cells t.kinds.l) (h2 : JOk t.kinds.l js) (h3 : FnsOk (hist t.cells t.kinds.l js).rd fs) (h4 : BegOk t.cells b) : sp_bits_of [dy t, dy (Tp.mk js), dy (Tp.mk fs), dy (Tp.mk b)] M P := ⟨t, js, fs, b, rfl, h1, h2, h3, h4, h⟩
local macro_rules | `(tactic| walk_at "zu") => `(tactic| first
  | refine u_is_integer ?_
  | refine u_is_integer_th ?_
  | refine u_is_number_below ?_ ?_
  | refine u_is_number_below_th ?_
  | refine u_is_bits ?_
  | refine u_is_lot ?_ ?_
  | refine u_is_lot_of_cells ?_ ?_ ?_
  | refine u_is_kind ?_ ?_
  | refine u_is_journal ?_ ?_
  | refine u_check_journal ?_ ?_
  | refine u_fresh ?_ ?_ ?_
  | refine u_last_behind ?_ ?_ ?_
  | refine u_last_versions ?_ ?_ ?_
  | refine u_rows_behind ?_ ?_ ?_
  | refine u_source_rows ?_ ?_ ?_
  | refine u_is_version ?_ ?_ ?_ ?_ ?_
  | refine u_is_plates ?_ ?_ ?_ ?_
  | refine u_check_plates ?_ ?_ ?_ ?_
  | refine u_derived_marks ?_ ?_ ?_ ?_
  | refine u__law_is_int ?_ ?_ ?_
  | refine u__law_is_int_th ?_
  | refine u__law_flag ?_
  | refine u__law_history ?_ ?_ ?_
  | refine u__law_closure ?_ ?_ ?_ ?_
  | refine u__law_lost ?_ ?_ ?_ ?_ ?_
  | refine u__law_with ?_ ?_ ?_
  | refine u__law_draw ?_ ?_ ?_
  | refine u__law_any ?_ ?_ ?_
  | refine u__law_any_th ?_ ?_ ?_
  | refine u__law_kinds ?_ ?_ ?_ ?_ ?_
  | refine u__law_table ?_ ?_ ?_
  | refine u__law_journal ?_ ?_ ?_ ?_ ?_
  | refine u__law_versions ?_ ?_ ?_ ?_ ?_
  | refine u__law_plates ?_ ?_ ?_ ?_ ?_ ?_ ?_ ?_
  | refine u_Table_init ?_ ?_
  | refine u_is_functions ?_ ?_ ?_
  | refine u_is_functions_ty ?_ ?_ ?_ ?_
  | refine u_is_bits_ty ?_ ?_ ?_
  | refine u_bits_by_version ?_ ?_ ?_ ?_ ?_
  | refine u_bits_of ?_ ?_ ?_ ?_ ?_)
local macro_rules | `(tactic| walk_at "zs1") => `(tactic| first
  | walk_at "zq"
  | walk_at "zu"
  | walk_at "zb")
local macro_rules | `(tactic| walk_at "zs") => `(tactic| repeat walk_at "zs1")
end
end K03
end
section
set_option Elab.async false
set_option linter.all false
set_option maxRecDepth 100000
set_option maxHeartbeats 4000000
namespace K03
open PySem PySem.Spec PyProof.Rows L2 Zq K02
open C8 (Cal Mak pe_c pe_mk pe_gc)
local macro_rules | `(tactic| walk_at "zq") => `(tactic| first
  | with_reducible refine ws_seq ?_
  | with_reducible refine ws_asg ?_
  | (with_reducible apply ws_asgG)
  | with_reducible refine ws_next ?_
  | with_reducible refine ws_ret ?_
  | with_reducible refine ws_if ?_
  | with_reducible refine ws_drop (te := tCall _ _ _ _) ?_
  | with_reducible refine as_dy ?_
  | ((with_reducible apply we_var); focus rfl)
  | with_reducible refine we_int ?_
  | with_reducible refine we_bl ?_
  | with_reducible refine we_non ?_
  | with_reducible refine we_ty ?_
  | with_reducible refine we_str ?_
  | with_reducible refine we_op2 ?_
  | with_reducible refine we_neg ?_
  | with_reducible refine we_andV ?_
  | with_reducible refine we_orV ?_
  | with_reducible refine we_notV ?_
  | with_reducible refine we_chain ?_
  | with_reducible refine we_if ?_
  | with_reducible refine we_cb ?_
  | with_reducible refine tup_pair ?_
  | with_reducible refine tup_three ?_
  | with_reducible refine tup_nil ?_
  | with_reducible refine we_call ?_
  | with_reducible refine we_callD ?_
  | with_reducible refine we_tup ?_
  | refine we_cells (Tx.cl (by assumption)) (Tx.nc (by assumption)) ?_
  | refine we_kinds (Tx.cl (by assumption)) (Tx.nk (by assumption)) ?_
  | with_reducible refine wt_test ?_
  | with_reducible refine wt_B ?_
  | with_reducible refine wt_not ?_
  | with_reducible refine wt_and ?_
  | with_reducible refine wt_or ?_
  | with_reducible refine wt_yes ?_
  | with_reducible refine wa_cons ?_
  | with_reducible refine wa_nil ?_
  | with_reducible refine rr_II ?_
  | with_reducible refine rr_isTrue ?_
  | with_reducible refine rr_notTrue ?_
  | with_reducible refine rr_isN0 ?_
  | with_reducible refine rr_notN0 ?_
  | with_reducible refine rr_isN ?_
  | with_reducible refine rr_notN ?_
  | with_reducible refine rr_IB ?_
  | with_reducible refine rr_eqI ?_
  | with_reducible refine rr_neI ?_
  | with_reducible refine rr_eqB ?_
  | with_reducible refine rr_ixP0 ?_
  | with_reducible refine rr_ixP1 ?_
  | with_reducible refine rr_ix30 ?_
  | with_reducible refine rr_ix31 ?_
  | with_reducible refine rr_ix32 ?_
  | with_reducible refine rr_leK ?_
  | refine rr_eqD ?_
  | refine rr_neD ?_
  | with_reducible refine rr_inT ?_
  | with_reducible refine rr_ninT ?_
  | with_reducible refine rr_inL ?_
  | with_reducible refine rr_ninL ?_
  | with_reducible refine rc_isi kit_ii ?_
  | with_reducible refine rc_isi kit_ib ?_
  | with_reducible refine rc_isi kit_bb ?_
  | with_reducible refine rc_isi kit_tt ?_
  | refine rc_isInt (Tx.isi (by assumption)) ?_
  | refine rc_isBl (Tx.isi (by assumption)) ?_
  | refine rc_isTup (Tx.isi (by assumption)) ?_
  | refine rc_isStr (Tx.isi (by assumption)) ?_
  | with_reducible refine rc_lenL ?_
  | with_reducible refine rc_lenT ?_
  | with_reducible refine rc_lenP ?_
  | with_reducible refine rc_tupL ?_
  | refine rc_lenM rfl ?_
  | refine rc_tupM rfl ?_
  | ((with_reducible apply rr_inM); focus rfl)
  | ((with_reducible apply rr_ninM); focus rfl)
  | with_reducible refine rc_lstTC ?_
  | with_reducible apply wg_setM
  | refine ex_l rfl ?_
  | refine ex_d rfl ?_
  | with_reducible refine rc_int ?_
  | with_reducible refine rc_abs ?_
  | with_reducible refine rc_min2 ?_
  | with_reducible refine rc_all ?_
  | with_reducible refine rc_any ?_
  | with_reducible refine wg_name ?_
  | (apply wg_tup2)
  | (apply wg_tup3))
local macro_rules | `(tactic| walk_at "zqs") => `(tactic| repeat walk_at "zq")
local macro_rules | `(tactic| walk_at "zok1") => `(tactic| first
  | exact trivial
  | exact dy_ok _ _
  | exact cLst_ok _ _
  | exact cDic_ok _ _
  | exact hand_ok _
  | exact handX_ok
  | exact okM_nil
  | exact okE_nil
  | exact okDs_nil
  | refine okM_cons ?_ ?_
  | refine okDs_cons ?_ ?_
  | refine okE_none ?_
  | refine okE_cons ?_ ?_
  | exact mr_ok (Nat.le_of_ble_eq_true rfl)
  | exact Free.l _ _
  | exact Free.k _ _
  | exact Free.ok _ _
  | exact Frg.refl _
  | exact Frg.nil
  | refine Frg.same ?_
  | refine Frg.drop ?_)
local macro_rules | `(tactic| walk_at "zok") => `(tactic| repeat walk_at "zok1")
local macro_rules | `(tactic| walk_at "zcut") => `(tactic| exact Cut.mk (by walk_at "zok") (by walk_at "zok") (by walk_at "zok") rfl)
local macro_rules | `(tactic| walk_at "zb") => `(tactic| first
  | with_reducible refine bt_tt ?_
  | with_reducible refine bt_ff ?_
  | with_reducible refine bt_nt ?_
  | with_reducible refine bt_nf ?_
  | with_reducible refine bt_ft ?_
  | with_reducible refine bt_tf ?_
  | with_reducible refine bt_nt' ?_
  | with_reducible refine bt_nf' ?_
  | (with_reducible refine bt_t ?_ ?_
     focus (first | rfl | assumption))
  | (with_reducible refine bt_f ?_ ?_
     focus (first | rfl | assumption))
  | (with_reducible refine bt_t' ?_ ?_
     focus (first | rfl | assumption))
  | (with_reducible refine bt_f' ?_ ?_
     focus (first | rfl | assumption))
  | (refine ca5 ?_ ?_ ?_ ?_ ?_
     focus (first | rfl | decide)
     focus (first | exact Nat.zero_le _ | exact Nat.le_of_ble_eq_true rfl)
     focus (walk_at "zok"; done)
     focus (walk_at "zok"; done))
  | (refine ca3 ?_ ?_ ?_
     focus (walk_at "zok"; done)
     focus (walk_at "zok"; done)))

local macro_rules | `(tactic| walk_at "zu") => `(tactic| first
  | refine u_is_integer ?_
  | refine u_is_integer_th ?_
  | refine u_is_number_below ?_ ?_
  | refine u_is_number_below_th ?_
  | refine u_is_bits ?_
  | refine u_is_lot ?_ ?_
  | refine u_is_lot_of_cells ?_ ?_ ?_
  | refine u_is_kind ?_ ?_
  | refine u_is_journal ?_ ?_
  | refine u_check_journal ?_ ?_
  | refine u_fresh ?_ ?_ ?_
  | refine u_last_behind ?_ ?_ ?_
  | refine u_last_versions ?_ ?_ ?_
  | refine u_rows_behind ?_ ?_ ?_
  | refine u_source_rows ?_ ?_ ?_
  | refine u_is_version ?_ ?_ ?_ ?_ ?_
  | refine u_is_plates ?_ ?_ ?_ ?_
  | refine u_check_plates ?_ ?_ ?_ ?_
  | refine u_derived_marks ?_ ?_ ?_ ?_
  | refine u__law_is_int ?_ ?_ ?_
  | refine u__law_is_int_th ?_
  | refine u__law_flag ?_
  | refine u__law_history ?_ ?_ ?_
  | refine u__law_closure ?_ ?_ ?_ ?_
  | refine u__law_lost ?_ ?_ ?_ ?_ ?_
  | refine u__law_with ?_ ?_ ?_
  | refine u__law_draw ?_ ?_ ?_
  | refine u__law_any ?_ ?_ ?_
  | refine u__law_any_th ?_ ?_ ?_
  | refine u__law_kinds ?_ ?_ ?_ ?_ ?_
  | refine u__law_table ?_ ?_ ?_
  | refine u__law_journal ?_ ?_ ?_ ?_ ?_
  | refine u__law_versions ?_ ?_ ?_ ?_ ?_
  | refine u__law_plates ?_ ?_ ?_ ?_ ?_ ?_ ?_ ?_
  | refine u_Table_init ?_ ?_
  | refine u_is_functions ?_ ?_ ?_
  | refine u_is_functions_ty ?_ ?_ ?_ ?_
  | refine u_is_bits_ty ?_ ?_ ?_
  | refine u_bits_by_version ?_ ?_ ?_ ?_ ?_
  | refine u_bits_of ?_ ?_ ?_ ?_ ?_)
local macro_rules | `(tactic| walk_at "zs1") => `(tactic| first
  | walk_at "zq"
  | walk_at "zu"
  | walk_at "zb")
local macro_rules | `(tactic| walk_at "zs") => `(tactic| repeat walk_at "zs1")
section
variable {P : Program} {w : World} {c : Cc} {mg : Str → Option Value} {base : Heap}
theorem three_or (l : List Th) : (∃ f o u, l = [f, o, u]) ∨ l.length ≠ 3 := by
  match l with
  | [] => exact .inr (by decide)
  | [_] => exact .inr (by simp)
  | [_, _] => exact .inr (by simp)
  | [f, o, u] => exact .inl ⟨f, o, u, rfl⟩
  | _ :: _ :: _ :: _ :: _ => exact .inr (by simp only [List.length_cons]; omega)
theorem part_no {n : Int} {rd : List (Tp Int)} {la ps : List Int} {l : List Th} (h : l.length ≠ 3) : isPart n rd la ps (.tup l) = false := by
  match l, h with
  | [], _ => rfl
  | [_], _ => rfl
  | [_, _], _ => rfl
  | [f, o, u], h => exact absurd rfl h
  | _ :: _ :: _ :: _ :: _, _ => rfl
/-- is_parting -/
def sp_is_parting : ASp := fun ds M P => ∃ (t : Tab) (js ps : List Int) (x : Th), ds = [dy t, dy (Tp.mk js), dy (Tp.mk ps), dy x] ∧ KsOk t.cells t.kinds.l ∧ JOk t.kinds.l js ∧ POk t.cells (hist t.cells t.kinds.l js).wr ps ∧ P (dy (isPart t.cells (hist t.cells t.kinds.l js).rd (hist t.cells t.kinds.l js).la ps x)) M
theorem sc_is_parting : FnScope ["table", "journal", "plates", "thing", "bits", "others", "last", "functions", "one", "other", "version"] ["table", "journal", "plates", "thing"] (defScope s_is_parting) := ⟨rfl, rfl, rfl, by decide +kernel, rfl, by decide +kernel, by decide +kernel⟩
theorem ok_is_parting {f : Addr} {fd : FuncData} (F : Fun c.K "is_parting" "is_parting" s_is_parting f fd) (T : Tb mg) (X : Tx c) (g_check_plates : Cal P w c.K mg base 6 "check_plates" (spOf c 3 0 sp_check_plates) []) (g_is_functions : Cal P w c.K mg base 4 "is_functions" (spOf c 3 0 sp_is_functions) []) (g_is_bits : Cal P w c.K mg base 3 "is_bits" (spOf c 2 0 sp_is_bits) []) (g_bits_by_version : Cal P w c.K mg base 3 "bits_by_version" (spOf c 4 0 sp_bits_by_version) []) (g_last_versions : Cal P w c.K mg base 2 "last_versions" (spOf c 2 0 sp_last_versions) []) :
    FnOk P w c.K mg base CX0 7 f fd ["table", "journal", "plates", "thing"] (spOf c 4 0 sp_is_parting) := by
  refine F.ok sc_is_parting (fun vs H Q E h => ?_) (fun cdv A outer s H vs Q E hr h => ?_)
  · obtain ⟨as, F, ds, M, P, _, hn, _, rd, _⟩ := h
    rw [rd.length, hn]; rfl
  · have hu1 : (A.deeper (envOfC "is_parting" (defScope s_is_parting) s.heap.objs.size f cdv)).units + 1 < cLine := hu_of hr
    have hu8 : (A.deeper (envOfC "is_parting" (defScope s_is_parting) s.heap.objs.size f cdv)).units + 8 < cLine := by have := hr.un; omega
    have hu16 : (A.deeper (envOfC "is_parting" (defScope s_is_parting) s.heap.objs.size f cdv)).units + 16 < cLine := by have := hr.un; omega
    have hu64 : (A.deeper (envOfC "is_parting" (defScope s_is_parting) s.heap.objs.size f cdv)).units + 64 < cLine := by have := hr.un; omega
    have hu65 : (A.deeper (envOfC "is_parting" (defScope s_is_parting) s.heap.objs.size f cdv)).units + 65 < cLine := by have := hr.un; omega
    refine ⟨_, (pss_cons (ps_expr (pe_c g_check_plates hr (by decide) rfl (pa_cons (pv 0) (pa_cons (pv 1) (pa_cons (pv 2) pa_nil)))))
        (pss_cons (ps_if (PW.pt (pw_or (pt_not (pt_val (pe_callB (r := rIsi c.K) call_isi (by rfl) T.b_isinstance (by decide +kernel) (pa_cons (pv 3) (pa_cons (pe_bltn (v := .ty "tuple") rfl T.b_tuple (by decide +kernel) rfl) pa_nil))))) (pw_or1 (pt_cmpR op_ne (pe_callB (r := Zq.rLen c.K) call_len_seq (by rfl) T.b_len (by decide +kernel) (pa_cons (pv 3) pa_nil)) pe_int (nomark _))))) (pss_one (ps_ret pe_bl)) pss_nil)
        (pss_cons (ps_asg (pv 3) (pg_tup rfl (pgs_cons (pg_name (i := 7) sc_is_parting.nd rfl (Or.inl rfl)) (pgs_cons (pg_name (i := 8) sc_is_parting.nd rfl (Or.inl rfl)) (pgs_cons (pg_name (i := 9) sc_is_parting.nd rfl (Or.inl rfl)) pgs_nil)))))
        (pss_cons (ps_if (pt_not (pt_val (pe_c g_is_functions hr (by decide) rfl (pa_cons (pv 0) (pa_cons (pv 1) (pa_cons (pv 7) pa_nil)))))) (pss_one (ps_ret pe_bl)) pss_nil)
        (pss_cons (ps_if (PW.pt (pw_or (pt_not (pt_val (pe_c g_is_bits hr (by decide) rfl (pa_cons (pe_fld (pv 0) rfl) (pa_cons (pv 8) pa_nil))))) (pw_or1 (pt_not (pt_val (pe_c g_is_bits hr (by decide) rfl (pa_cons (pe_fld (pv 0) rfl) (pa_cons (pv 9) pa_nil)))))))) (pss_one (ps_ret pe_bl)) pss_nil)
        (pss_cons (ps_set (i := 4) sc_is_parting.nd rfl (Or.inr rfl) (pe_c g_bits_by_version hr (by decide) rfl (pa_cons (pv 0) (pa_cons (pv 1) (pa_cons (pv 7) (pa_cons (pv 8) pa_nil))))))
        (pss_cons (ps_set (i := 5) sc_is_parting.nd rfl (Or.inr rfl) (pe_c g_bits_by_version hr (by decide) rfl (pa_cons (pv 0) (pa_cons (pv 1) (pa_cons (pv 7) (pa_cons (pv 9) pa_nil))))))
        (pss_cons (ps_if (pt_cmpR (r := rNeD c.K) (op_neD hu64) (pe_lc (own := [("version", 10)]) (g := (gName 10)) rfl sc_is_parting.nd (pi_tup (pv 2)) (blkOk_by (N := ["table", "journal", "plates", "thing", "bits", "others", "last", "functions", "one", "other", "version"]) (sc := defScope s_is_parting) (by decide +kernel)) (fun _ _ _ _ _ => (pg_name (i := 10) sc_is_parting.nd rfl (Or.inl rfl))) (fun _ _ _ _ _ => pts_nil) (fun _ _ _ _ _ => (pe_dget hu1 (pv 4) (pv 10) (fun _ _ => rfl)))) (pe_lc (own := [("version", 10)]) (g := (gName 10)) rfl sc_is_parting.nd (pi_tup (pv 2)) (blkOk_by (N := ["table", "journal", "plates", "thing", "bits", "others", "last", "functions", "one", "other", "version"]) (sc := defScope s_is_parting) (by decide +kernel)) (fun _ _ _ _ _ => (pg_name (i := 10) sc_is_parting.nd rfl (Or.inl rfl))) (fun _ _ _ _ _ => pts_nil) (fun _ _ _ _ _ => (pe_dget hu1 (pv 5) (pv 10) (fun _ _ => rfl)))) (nomark _)) (pss_one (ps_ret pe_bl)) pss_nil)
        (pss_cons (ps_set (i := 6) sc_is_parting.nd rfl (Or.inl rfl) (pe_c g_last_versions hr (by decide) rfl (pa_cons (pv 0) (pa_cons (pv 1) pa_nil))))
        (pss_one (ps_ret (pe_cmpR (r := rNeD c.K) (op_neD hu64) (pe_lc (own := [("version", 10)]) (g := (gName 10)) rfl sc_is_parting.nd (pi_tup (pv 6)) (blkOk_by (N := ["table", "journal", "plates", "thing", "bits", "others", "last", "functions", "one", "other", "version"]) (sc := defScope s_is_parting) (by decide +kernel)) (fun _ _ _ _ _ => (pg_name (i := 10) sc_is_parting.nd rfl (Or.inl rfl))) (fun _ _ _ _ _ => pts_nil) (fun _ _ _ _ _ => (pe_dget hu1 (pv 4) (pv 10) (fun _ _ => rfl)))) (pe_lc (own := [("version", 10)]) (g := (gName 10)) rfl sc_is_parting.nd (pi_tup (pv 6)) (blkOk_by (N := ["table", "journal", "plates", "thing", "bits", "others", "last", "functions", "one", "other", "version"]) (sc := defScope s_is_parting) (by decide +kernel)) (fun _ _ _ _ _ => (pg_name (i := 10) sc_is_parting.nd rfl (Or.inl rfl))) (fun _ _ _ _ _ => pts_nil) (fun _ _ _ _ _ => (pe_dget hu1 (pv 5) (pv 10) (fun _ _ => rfl)))) (nomark _))))))))))))), ?_⟩
    refine body_ok h (by decide) fun ds M R hds hM hS => ?_
    obtain ⟨t, js, ps, x, rfl, hk, hj, hp, hP⟩ := hS
    obtain rfl := List.length_eq_zero_iff.mp hM
    show WS c 0 _ [some (dy t), some (dy (Tp.mk js)), some (dy (Tp.mk ps)), some (dy x), none, none, none, none, none, none, none] [] _ _
    have o := hok hk js hj.at_
    have n1 := hk.n1
    have n8 := hk.n8
    have rok := rd_ok hk js hj
    have p8 := hp.le n8
    have lo := la_low hk hj
    have pw := pl_low hk hj hp
    cases x with
    | tup l =>
      rcases three_or l with ⟨f, on, tw, rfl⟩ | h3
      · rw [th_three]
        walk_at "zs"
        · refine rc_len3 ?_
          walk_at "zs"
          have fin0 : isFns (hist t.cells t.kinds.l js).rd f = false → R (dy false) [] := fun q => by
            have e : isPart t.cells (hist t.cells t.kinds.l js).rd (hist t.cells t.kinds.l js).la ps (.tup [f, on, tw]) = false := by
              show (((isFns _ f && isBits _ on) && isBits _ tw) && _) = false
              rw [q]; rfl
            rw [← e]; exact hP
          have fin1 : isBits t.cells on = false → R (dy false) [] := fun q => by
            have e : isPart t.cells (hist t.cells t.kinds.l js).rd (hist t.cells t.kinds.l js).la ps (.tup [f, on, tw]) = false := by
              show (((isFns _ f && isBits _ on) && isBits _ tw) && _) = false
              rw [q, Bool.and_false]; rfl
            rw [← e]; exact hP
          have fin2 : isBits t.cells tw = false → R (dy false) [] := fun q => by
            have e : isPart t.cells (hist t.cells t.kinds.l js).rd (hist t.cells t.kinds.l js).la ps (.tup [f, on, tw]) = false := by
              show (((isFns _ f && isBits _ on) && isBits _ tw) && _) = false
              rw [q, Bool.and_false]; rfl
            rw [← e]; exact hP
          cases b1 : isFns (hist t.cells t.kinds.l js).rd f with
          | false =>
            walk_at "zs"
            exact fin0 b1
          | true =>
            walk_at "zs"
            cases b2 : isBits t.cells on with
            | false =>
              walk_at "zs"
              exact fin1 b2
            | true =>
              walk_at "zs"
              cases b3 : isBits t.cells tw with
              | false =>
                walk_at "zs"
                exact fin2 b3
              | true =>
                have q1 := fns_in b1
                have q2 := bits_in b2
                have q3 := bits_in b3
                have e1 : dy f = dy (Tp.mk (thFs f)) := (congrArg dy q1.1).trans (IsTh.eq _)
                have e2 : dy on = dy (Tp.mk (thIs on)) := (congrArg dy q2.1).trans (IsTh.eq _)
                have e3 : dy tw = dy (Tp.mk (thIs tw)) := (congrArg dy q3.1).trans (IsTh.eq _)
                have hP' : R (dy (parts (hist t.cells t.kinds.l js).rd (hist t.cells t.kinds.l js).la ps (thFs f) (thIs on) (thIs tw))) [] := by
                  have e : isPart t.cells (hist t.cells t.kinds.l js).rd (hist t.cells t.kinds.l js).la ps (.tup [f, on, tw]) = parts (hist t.cells t.kinds.l js).rd (hist t.cells t.kinds.l js).la ps (thFs f) (thIs on) (thIs tw) := by
                    show (((isFns _ f && isBits _ on) && isBits _ tw) && _) = _
                    rw [b1, b2, b3]; rfl
                  rw [← e]; exact hP
                have d1 := dok rok q1.2 q2.2.1
                have d2 := dok rok q1.2 q3.2.1
                rw [o.rl] at d1 d2
                unfold parts at hP'
                rw [← map_eq_all] at hP'
                rw [← map_ne_any] at hP'
                rw [e1, e2, e3]
                walk_at "zs"
                · refine we_lcM (β := Int) (γ := Int) [10] (fun v => bit (bitsD (hist t.cells t.kinds.l js).rd (thFs f) (thIs on)) v) (fun t ht => ht) (by walk_at "zok") ?_
                  refine wi_tup (α := Int) ?_
                  walk_at "zs"
                  refine ⟨⟨ps⟩, rfl, rfl, ps, rfl, by omega, fun y hy acc => ?_, ?_⟩
                  · walk_at "zs"
                    refine ⟨rfl, ?_⟩
                    refine we_dgetF (β := Int) ?_
                    walk_at "zs"
                    exact ⟨_, d1.get (pw y hy).1 (pw y hy).2, rfl, rfl⟩
                  walk_at "zs"
                  refine we_lcM (β := Int) (γ := Int) [10] (fun v => bit (bitsD (hist t.cells t.kinds.l js).rd (thFs f) (thIs tw)) v) (fun t ht => ht) (by walk_at "zok") ?_
                  refine wi_tup (α := Int) ?_
                  walk_at "zs"
                  refine ⟨⟨ps⟩, rfl, rfl, ps, rfl, by omega, fun y hy acc => ?_, ?_⟩
                  · walk_at "zs"
                    refine ⟨rfl, ?_⟩
                    refine we_dgetF (β := Int) ?_
                    walk_at "zs"
                    exact ⟨_, d2.get (pw y hy).1 (pw y hy).2, rfl, rfl⟩
                  walk_at "zs"
                  cases b4 : decide (ps.map (fun v => bit (bitsD (hist t.cells t.kinds.l js).rd (thFs f) (thIs on)) v) = ps.map (fun v => bit (bitsD (hist t.cells t.kinds.l js).rd (thFs f) (thIs tw)) v)) with
                  | false =>
                    rw [b4] at hP'
                    walk_at "zs"
                    exact hP'
                  | true =>
                    rw [b4, Bool.true_and] at hP'
                    have la8 := o.ll
                    walk_at "zs"
                    · refine we_lcM (β := Int) (γ := Int) [10] (fun v => bit (bitsD (hist t.cells t.kinds.l js).rd (thFs f) (thIs on)) v) (fun t ht => ht) (by walk_at "zok") ?_
                      refine wi_tup (α := Int) ?_
                      walk_at "zs"
                      refine ⟨_, rfl, rfl, (hist t.cells t.kinds.l js).la, rfl, by omega, fun y hy acc => ?_, ?_⟩
                      · walk_at "zs"
                        refine ⟨rfl, ?_⟩
                        refine we_dgetF (β := Int) ?_
                        walk_at "zs"
                        exact ⟨_, d1.get (lo y hy).1 (lo y hy).2, rfl, rfl⟩
                      walk_at "zs"
                      refine we_lcM (β := Int) (γ := Int) [10] (fun v => bit (bitsD (hist t.cells t.kinds.l js).rd (thFs f) (thIs tw)) v) (fun t ht => ht) (by walk_at "zok") ?_
                      refine wi_tup (α := Int) ?_
                      walk_at "zs"
                      refine ⟨_, rfl, rfl, (hist t.cells t.kinds.l js).la, rfl, by omega, fun y hy acc => ?_, ?_⟩
                      · walk_at "zs"
                        refine ⟨rfl, ?_⟩
                        refine we_dgetF (β := Int) ?_
                        walk_at "zs"
                        exact ⟨_, d2.get (lo y hy).1 (lo y hy).2, rfl, rfl⟩
                      walk_at "zs"
                      exact hP'
                    all_goals assumption
                all_goals first | assumption | exact q1.2 | exact q2.2.1 | exact q3.2.1
          all_goals assumption
        all_goals assumption
      · rw [th_tup]
        have e1 : (!decide (((l.length : Nat) : Int) = 3)) = true := by rw [decide_eq_false (by omega)]; rfl
        walk_at "zs"
        · rw [part_no h3] at hP
          exact hP
        all_goals assumption
    | _ =>
      walk_at "zs"
      all_goals first | assumption | exact hP

theorem u_is_parting {M : Mem} {P : Dy → Mem → Prop} {t : Tab} {js ps : List Int} {x : Th} (h : P (dy (isPart t.cells (hist t.cells t.kinds.l js).rd (hist t.cells t.kinds.l js).la ps x)) M) (h1 : KsOk t.cells t.kinds.l) (h2 : JOk t.kinds.l js) (h3 : POk t.cells (hist t.cells t.kinds.l js).wr ps) : sp_is_parting [dy t, dy (Tp.mk js), dy (Tp.mk ps), dy x] M P := ⟨t, js, ps, x, rfl, h1, h2, h3, h⟩
local macro_rules | `(tactic| walk_at "zu") => `(tactic| first
  | refine u_is_integer ?_
  | refine u_is_integer_th ?_
  | refine u_is_number_below ?_ ?_
  | refine u_is_number_below_th ?_
  | refine u_is_bits ?_
  | refine u_is_lot ?_ ?_
  | refine u_is_lot_of_cells ?_ ?_ ?_
  | refine u_is_kind ?_ ?_
  | refine u_is_journal ?_ ?_
  | refine u_check_journal ?_ ?_
  | refine u_fresh ?_ ?_ ?_
  | refine u_last_behind ?_ ?_ ?_
  | refine u_last_versions ?_ ?_ ?_
  | refine u_rows_behind ?_ ?_ ?_
  | refine u_source_rows ?_ ?_ ?_
  | refine u_is_version ?_ ?_ ?_ ?_ ?_
  | refine u_is_plates ?_ ?_ ?_ ?_
  | refine u_check_plates ?_ ?_ ?_ ?_
  | refine u_derived_marks ?_ ?_ ?_ ?_
  | refine u__law_is_int ?_ ?_ ?_
  | refine u__law_is_int_th ?_
  | refine u__law_flag ?_
  | refine u__law_history ?_ ?_ ?_
  | refine u__law_closure ?_ ?_ ?_ ?_
  | refine u__law_lost ?_ ?_ ?_ ?_ ?_
  | refine u__law_with ?_ ?_ ?_
  | refine u__law_draw ?_ ?_ ?_
  | refine u__law_any ?_ ?_ ?_
  | refine u__law_any_th ?_ ?_ ?_
  | refine u__law_kinds ?_ ?_ ?_ ?_ ?_
  | refine u__law_table ?_ ?_ ?_
  | refine u__law_journal ?_ ?_ ?_ ?_ ?_
  | refine u__law_versions ?_ ?_ ?_ ?_ ?_
  | refine u__law_plates ?_ ?_ ?_ ?_ ?_ ?_ ?_ ?_
  | refine u_Table_init ?_ ?_
  | refine u_is_functions ?_ ?_ ?_
  | refine u_is_functions_ty ?_ ?_ ?_ ?_
  | refine u_is_bits_ty ?_ ?_ ?_
  | refine u_bits_by_version ?_ ?_ ?_ ?_ ?_
  | refine u_bits_of ?_ ?_ ?_ ?_ ?_
  | refine u_is_parting ?_ ?_ ?_ ?_)
local macro_rules | `(tactic| walk_at "zs1") => `(tactic| first
  | walk_at "zq"
  | walk_at "zu"
  | walk_at "zb")
local macro_rules | `(tactic| walk_at "zs") => `(tactic| repeat walk_at "zs1")
theorem u_is_parting_ty {M : Mem} {P : Dy → Mem → Prop} {t : Tab} {js ps : List Int} {w : World3} (h : P (dy (parts (hist t.cells t.kinds.l js).rd (hist t.cells t.kinds.l js).la ps w.a.l w.b.l w.c.l)) M) (h1 : KsOk t.cells t.kinds.l) (h2 : JOk t.kinds.l js) (h3 : POk t.cells (hist t.cells t.kinds.l js).wr ps) (h4 : WOk t.cells (hist t.cells t.kinds.l js).rd w) : sp_is_parting [dy t, dy (Tp.mk js), dy (Tp.mk ps), dy w] M P := ⟨t, js, ps, IsTh.to w, by rw [IsTh.eq], h1, h2, h3, by rw [part_to h4 (by have := h1.n1; omega)]; exact h⟩
local macro_rules | `(tactic| walk_at "zu") => `(tactic| first
  | refine u_is_integer ?_
  | refine u_is_integer_th ?_
  | refine u_is_number_below ?_ ?_
  | refine u_is_number_below_th ?_
  | refine u_is_bits ?_
  | refine u_is_lot ?_ ?_
  | refine u_is_lot_of_cells ?_ ?_ ?_
  | refine u_is_kind ?_ ?_
  | refine u_is_journal ?_ ?_
  | refine u_check_journal ?_ ?_
  | refine u_fresh ?_ ?_ ?_
  | refine u_last_behind ?_ ?_ ?_
  | refine u_last_versions ?_ ?_ ?_
  | refine u_rows_behind ?_ ?_ ?_
  | refine u_source_rows ?_ ?_ ?_
  | refine u_is_version ?_ ?_ ?_ ?_ ?_
  | refine u_is_plates ?_ ?_ ?_ ?_
  | refine u_check_plates ?_ ?_ ?_ ?_
  | refine u_derived_marks ?_ ?_ ?_ ?_
  | refine u__law_is_int ?_ ?_ ?_
  | refine u__law_is_int_th ?_
  | refine u__law_flag ?_
  | refine u__law_history ?_ ?_ ?_
  | refine u__law_closure ?_ ?_ ?_ ?_
  | refine u__law_lost ?_ ?_ ?_ ?_ ?_
  | refine u__law_with ?_ ?_ ?_
  | refine u__law_draw ?_ ?_ ?_
  | refine u__law_any ?_ ?_ ?_
  | refine u__law_any_th ?_ ?_ ?_
  | refine u__law_kinds ?_ ?_ ?_ ?_ ?_
  | refine u__law_table ?_ ?_ ?_
  | refine u__law_journal ?_ ?_ ?_ ?_ ?_
  | refine u__law_versions ?_ ?_ ?_ ?_ ?_
  | refine u__law_plates ?_ ?_ ?_ ?_ ?_ ?_ ?_ ?_
  | refine u_Table_init ?_ ?_
  | refine u_is_functions ?_ ?_ ?_
  | refine u_is_functions_ty ?_ ?_ ?_ ?_
  | refine u_is_bits_ty ?_ ?_ ?_
  | refine u_bits_by_version ?_ ?_ ?_ ?_ ?_
  | refine u_bits_of ?_ ?_ ?_ ?_ ?_
  | refine u_is_parting ?_ ?_ ?_ ?_
  | refine u_is_parting_ty ?_ ?_ ?_ ?_ ?_)
local macro_rules | `(tactic| walk_at "zs1") => `(tactic| first
  | walk_at "zq"
  | walk_at "zu"
  | walk_at "zb")
local macro_rules | `(tactic| walk_at "zs") => `(tactic| repeat walk_at "zs1")
def toldO (n : Int) (rd : List (Tp Int)) (la ps : List Int) : Option World3 := if lostOf rd la ps = [] then none else some (wTold n rd ps)
theorem told_split {n : Int} {rd : List (Tp Int)} {la ps : List Int} {P : Dy → Mem → Prop} {m : Mem} (h : P (dy (toldO n rd la ps)) m) : (lostOf rd la ps = [] → P (dy ()) m) ∧ (lostOf rd la ps ≠ [] → P (dy (wTold n rd ps)) m) := by
  unfold toldO at h
  exact ⟨fun e => by rw [if_pos e] at h; exact h, fun e => by rw [if_neg e] at h; exact h⟩
/-- parting -/
def sp_parting : ASp := fun ds M P => ∃ (t : Tab) (js ps : List Int), ds = [dy t, dy (Tp.mk js), dy (Tp.mk ps)] ∧ KsOk t.cells t.kinds.l ∧ JOk t.kinds.l js ∧ POk t.cells (hist t.cells t.kinds.l js).wr ps ∧ P (dy (toldO t.cells (hist t.cells t.kinds.l js).rd (hist t.cells t.kinds.l js).la ps)) M
theorem sc_parting : FnScope ["table", "journal", "plates", "rows", "marks", "functions", "one", "other", "world", "deed", "row", "many", "version"] ["table", "journal", "plates"] (defScope s_parting) := ⟨rfl, rfl, rfl, by decide +kernel, rfl, by decide +kernel, by decide +kernel⟩
theorem ok_parting {f : Addr} {fd : FuncData} (F : Fun c.K "parting" "parting" s_parting f fd) (T : Tb mg) (X : Tx c) (g_check_plates : Cal P w c.K mg base 6 "check_plates" (spOf c 3 0 sp_check_plates) []) (g_source_rows : Cal P w c.K mg base 2 "source_rows" (spOf c 2 0 sp_source_rows) []) (g_fresh : Cal P w c.K mg base 1 "fresh" (spOf c 1 0 sp_fresh) []) (g_is_parting : Cal P w c.K mg base 7 "is_parting" (spOf c 4 0 sp_is_parting) []) (gD_derived_marks : Cal P w c.K mg base 1 "derived_marks" (spOf c 3 0 sp_derived_marks) [.int 0]) :
    FnOk P w c.K mg base CX0 8 f fd ["table", "journal", "plates"] (spOf c 3 0 sp_parting) := by
  refine F.ok sc_parting (fun vs H Q E h => ?_) (fun cdv A outer s H vs Q E hr h => ?_)
  · obtain ⟨as, F, ds, M, P, _, hn, _, rd, _⟩ := h
    rw [rd.length, hn]; rfl
  · have hu1 : (A.deeper (envOfC "parting" (defScope s_parting) s.heap.objs.size f cdv)).units + 1 < cLine := hu_of hr
    have hu8 : (A.deeper (envOfC "parting" (defScope s_parting) s.heap.objs.size f cdv)).units + 8 < cLine := by have := hr.un; omega
    have hu16 : (A.deeper (envOfC "parting" (defScope s_parting) s.heap.objs.size f cdv)).units + 16 < cLine := by have := hr.un; omega
    have hu64 : (A.deeper (envOfC "parting" (defScope s_parting) s.heap.objs.size f cdv)).units + 64 < cLine := by have := hr.un; omega
    have hu65 : (A.deeper (envOfC "parting" (defScope s_parting) s.heap.objs.size f cdv)).units + 65 < cLine := by have := hr.un; omega
    refine ⟨_, (pss_cons (ps_expr (pe_c g_check_plates hr (by decide) rfl (pa_cons (pv 0) (pa_cons (pv 1) (pa_cons (pv 2) pa_nil)))))
        (pss_cons (ps_set (i := 3) sc_parting.nd rfl (Or.inl rfl) (pe_c g_source_rows hr (by decide) rfl (pa_cons (pv 0) (pa_cons (pv 1) pa_nil))))
        (pss_cons (ps_set (i := 4) sc_parting.nd rfl (Or.inr rfl) (pe_c gD_derived_marks hr (by decide) rfl (pa_cons (pv 3) (pa_cons (pv 2) pa_nil))))
        (pss_cons (ps_set (i := 5) sc_parting.nd rfl (Or.inl rfl) (pe_lst pa_nil))
        (pss_cons (ps_for PassesOwn.never rfl (pi_enum rfl T.b_enumerate (pa_cons (pv 3) pa_nil)) (pg_tup rfl (pgs_cons (pg_name (i := 9) sc_parting.nd rfl (Or.inl rfl)) (pgs_cons (pg_name (i := 10) sc_parting.nd rfl (Or.inl rfl)) pgs_nil))) (pss_cons (ps_set (i := 11) sc_parting.nd rfl (Or.inl rfl) (pe_op op_shl pe_int (pe_callB (r := Zq.rLen c.K) call_len_seq (by rfl) T.b_len (by decide +kernel) (pa_cons (pv 10) pa_nil))))
        (pss_one (ps_expr (pe_bm PySem.F.plainAttrs_list PySem.F.slot_list_append PySem.F.type_list_append mt_append (pv 5) (pa_cons (pe_ifExp (pt_cmp (pc_din hu1 (pv 9) (pv 4))) (pe_op (r := Zr.rRepA c.K) Zr.op_repA (pe_tup (pa_cons pe_int pa_nil)) (pv 11)) (pe_op (r := rCatA c.K) op_catA (pe_tup (pa_cons pe_int pa_nil)) (pe_op (r := Zr.rRepA c.K) Zr.op_repA (pe_tup (pa_cons pe_int pa_nil)) (pe_op op_sub (pv 11) pe_int)))) pa_nil))))))
        (pss_cons (ps_set (i := 6) sc_parting.nd rfl (Or.inl rfl) (pe_op (r := Zr.rRepA c.K) Zr.op_repA (pe_tup (pa_cons pe_int pa_nil)) (pe_fld (pv 0) rfl)))
        (pss_cons (ps_set (i := 7) sc_parting.nd rfl (Or.inl rfl) (pe_callTy (r := Zq.rTup c.K) call_tuple_of (by rfl) T.b_tuple (by decide +kernel) (pa_cons (pe_lc (own := [("version", 12)]) (g := (gName 12)) rfl sc_parting.nd (pi_tup (pe_c g_fresh hr (by decide) rfl (pa_cons (pv 0) pa_nil))) (blkOk_by (N := ["table", "journal", "plates", "rows", "marks", "functions", "one", "other", "world", "deed", "row", "many", "version"]) (sc := defScope s_parting) (by decide +kernel)) (fun _ _ _ _ _ => (pg_name (i := 12) sc_parting.nd rfl (Or.inl rfl))) (fun _ _ _ _ _ => pts_nil) (fun _ _ _ _ _ => (pe_ifExp (pt_cmp (pc_din hu1 (pv 12) (pv 4))) pe_int pe_int))) pa_nil)))
        (pss_cons (ps_set (i := 8) sc_parting.nd rfl (Or.inl rfl) (pe_tup (pa_cons (pe_callTy (r := Zq.rTup c.K) call_tuple_of (by rfl) T.b_tuple (by decide +kernel) (pa_cons (pv 5) pa_nil)) (pa_cons (pv 6) (pa_cons (pv 7) pa_nil)))))
        (pss_one (ps_ret (pe_ifExp (pt_val (pe_c g_is_parting hr (by decide) rfl (pa_cons (pv 0) (pa_cons (pv 1) (pa_cons (pv 2) (pa_cons (pv 8) pa_nil)))))) (pv 8) pe_non))))))))))), ?_⟩
    refine body_ok h (by decide) fun ds M R hds hM hS => ?_
    obtain ⟨t, js, ps, rfl, hk, hj, hp, hP0⟩ := hS
    have hP := told_split hP0
    obtain rfl := List.length_eq_zero_iff.mp hM
    show WS c 0 _ [some (dy t), some (dy (Tp.mk js)), some (dy (Tp.mk ps)), none, none, none, none, none, none, none, none, none, none] [] _ _
    obtain ⟨b1, b2, b3⟩ := hok_b hk hj
    have n1 := hk.n1
    have n8 := hk.n8
    have rok := rd_ok hk js hj
    have p8 := hp.le n8
    have ff := first_fact hk hj hp
    walk_at "zs"
    · refine we_lstC (α := Tp Int) ?_
      walk_at "zs"
      refine ⟨[], rfl, Nat.zero_le _, ?_⟩
      walk_at "zs"
      refine ws_fold (β := Int × Tp Int) ([9] ++ [10]) (fun s p => s ++ [fnOf (clo (hist t.cells t.kinds.l js).rd ps) p]) [] (fun _ => [some (dy t), some (dy (Tp.mk js)), some (dy (Tp.mk ps)), some (dy (hist t.cells t.kinds.l js).rd), some (dy (Dc.mk (clo (hist t.cells t.kinds.l js).rd ps))), some (dy (MR.mk 0)), none, none, none, none, none, none, none]) (fun s => [cLst s]) (fun pre s => s.length = pre.length) ?_
      refine wi_enumL (α := Tp Int) ?_
      walk_at "zs"
      refine ⟨_, rfl, nums (hist t.cells t.kinds.l js).rd, rfl, rfl, by walk_at "zcut", fun pre y post s e hs hJ => ?_, fun s hs hJ => ?_⟩
      · obtain ⟨h1, h2, h4, hm⟩ := nums_split e
        have row := rok.at_ _ _ h4
        have r3 := row.1
        walk_at "zs"
        refine rr_shl ?_ ⟨by omega, by omega, by decide⟩
        have e2 : (1 : Int) * 2 ^ ((y.2.l.length : Nat) : Int).toNat = ((2 ^ y.2.l.length : Nat) : Int) := by rw [Int.one_mul, Int.toNat_natCast]; push_cast; rfl
        rw [e2]
        have w8 : 2 ^ y.2.l.length ≤ 8 := Nat.le_trans (Nat.pow_le_pow_right (by decide) r3) (by decide)
        have w1 : 1 ≤ 2 ^ y.2.l.length := Nat.one_le_two_pow
        generalize hw : 2 ^ y.2.l.length = wd at *
        walk_at "zs"
        refine ws_app (α := Tp Int) ?_
        walk_at "zs"
        refine we_dinF (β := Bool) ?_
        walk_at "zs"
        refine ⟨fun q => ?_, fun q => ?_⟩
        · have q' : memD (clo (hist t.cells t.kinds.l js).rd ps) y.1 = true := q
          walk_at "zs"
          refine tup_tp (α := Int) [0] rfl (by decide) ?_
          walk_at "zs"
          refine rr_repA (by simp) (by omega) (by omega) (by simp) ?_
          have e3 : fnOf (clo (hist t.cells t.kinds.l js).rd ps) y = ⟨(List.replicate ((wd : Nat) : Int).toNat [(0 : Int)]).flatten⟩ := by
            unfold fnOf; rw [if_pos q', rep_one, hw, Int.toNat_natCast]
          rw [← e3]
          walk_at "zs"
          refine ⟨by omega, by rw [List.length_append, List.length_append, hJ]; rfl, by walk_at "zcut"⟩
        · have q' : ¬ memD (clo (hist t.cells t.kinds.l js).rd ps) y.1 = true := by
            have q2 : memD (clo (hist t.cells t.kinds.l js).rd ps) y.1 = false := q
            rw [q2]; decide
          walk_at "zs"
          refine tup_tp (α := Int) [0] rfl (by decide) ?_
          walk_at "zs"
          refine tup_tp (α := Int) [1] rfl (by decide) ?_
          walk_at "zs"
          refine rr_repA (by simp) (by omega) (by omega) (by simp) ?_
          rw [rep_one]
          refine rr_catT (by show 1 + (List.replicate _ _).length ≤ _; rw [List.length_replicate]; omega) ?_
          have e3 : fnOf (clo (hist t.cells t.kinds.l js).rd ps) y = ⟨[(0 : Int)] ++ List.replicate (((wd : Nat) : Int) - 1).toNat 1⟩ := by
            unfold fnOf; rw [if_neg q', hw, show (((wd : Nat) : Int) - 1).toNat = wd - 1 by omega]; rfl
          rw [← e3]
          walk_at "zs"
          refine ⟨by omega, by rw [List.length_append, List.length_append, hJ]; rfl, by walk_at "zcut"⟩
      · have es : s = wFns (hist t.cells t.kinds.l js).rd ps := by rw [hs, fold_app]; rfl
        subst es
        walk_at "zs"
        refine tup_tp (α := Int) [0] rfl (by decide) ?_
        walk_at "zs"
        refine rr_repA (by simp) (by omega) (by omega) (by simp) ?_
        rw [rep_one]
        walk_at "zs"
        · refine we_lcM (β := Int) (γ := Int) [12] (fun v => if memD (clo (hist t.cells t.kinds.l js).rd ps) v = true then 0 else 1) (fun t ht => ht) (by walk_at "zok") ?_
          refine wi_tup (α := Int) ?_
          walk_at "zs"
          · refine ⟨_, rfl, rfl, frs t.cells.toNat, rfl, by rw [frs_len]; omega, fun y hy acc => ?_, ?_⟩
            · walk_at "zs"
              refine ⟨rfl, ?_⟩
              refine we_if ?_
              refine wt_test ?_
              refine we_dinF (β := Bool) ?_
              walk_at "zs"
              refine ⟨fun q => ?_, fun q => ?_⟩
              · have q' : memD (clo (hist t.cells t.kinds.l js).rd ps) y = true := q
                walk_at "zs"
                exact ⟨by rw [if_pos q'], rfl⟩
              · have q' : ¬ memD (clo (hist t.cells t.kinds.l js).rd ps) y = true := by
                  have q2 : memD (clo (hist t.cells t.kinds.l js).rd ps) y = false := q
                  rw [q2]; decide
                walk_at "zs"
                exact ⟨by rw [if_neg q'], rfl⟩
            walk_at "zs"
            · refine ⟨fun q => ?_, fun q => ?_⟩
              · have q2 : (!decide (lostOf (hist t.cells t.kinds.l js).rd (hist t.cells t.kinds.l js).la ps = [])) = true := ff.symm.trans q
                have q3 : lostOf (hist t.cells t.kinds.l js).rd (hist t.cells t.kinds.l js).la ps ≠ [] := fun e => by rw [decide_eq_true e] at q2; cases q2
                walk_at "zs"
                exact hP.2 q3
              · have q2 : (!decide (lostOf (hist t.cells t.kinds.l js).rd (hist t.cells t.kinds.l js).la ps = [])) = false := ff.symm.trans q
                have q3 : lostOf (hist t.cells t.kinds.l js).rd (hist t.cells t.kinds.l js).la ps = [] := Classical.byContradiction fun e => by rw [decide_eq_false e] at q2; cases q2
                walk_at "zs"
                exact hP.1 q3
            all_goals first | assumption | exact wTold_ok _ _ _
          all_goals first | assumption | omega
        all_goals first | assumption | omega
    all_goals first | assumption | omega

theorem u_parting {M : Mem} {P : Dy → Mem → Prop} {t : Tab} {js ps : List Int} (h : P (dy (toldO t.cells (hist t.cells t.kinds.l js).rd (hist t.cells t.kinds.l js).la ps)) M) (h1 : KsOk t.cells t.kinds.l) (h2 : JOk t.kinds.l js) (h3 : POk t.cells (hist t.cells t.kinds.l js).wr ps) : sp_parting [dy t, dy (Tp.mk js), dy (Tp.mk ps)] M P := ⟨t, js, ps, rfl, h1, h2, h3, h⟩
local macro_rules | `(tactic| walk_at "zu") => `(tactic| first
  | refine u_is_integer ?_
  | refine u_is_integer_th ?_
  | refine u_is_number_below ?_ ?_
  | refine u_is_number_below_th ?_
  | refine u_is_bits ?_
  | refine u_is_lot ?_ ?_
  | refine u_is_lot_of_cells ?_ ?_ ?_
  | refine u_is_kind ?_ ?_
  | refine u_is_journal ?_ ?_
  | refine u_check_journal ?_ ?_
  | refine u_fresh ?_ ?_ ?_
  | refine u_last_behind ?_ ?_ ?_
  | refine u_last_versions ?_ ?_ ?_
  | refine u_rows_behind ?_ ?_ ?_
  | refine u_source_rows ?_ ?_ ?_
  | refine u_is_version ?_ ?_ ?_ ?_ ?_
  | refine u_is_plates ?_ ?_ ?_ ?_
  | refine u_check_plates ?_ ?_ ?_ ?_
  | refine u_derived_marks ?_ ?_ ?_ ?_
  | refine u__law_is_int ?_ ?_ ?_
  | refine u__law_is_int_th ?_
  | refine u__law_flag ?_
  | refine u__law_history ?_ ?_ ?_
  | refine u__law_closure ?_ ?_ ?_ ?_
  | refine u__law_lost ?_ ?_ ?_ ?_ ?_
  | refine u__law_with ?_ ?_ ?_
  | refine u__law_draw ?_ ?_ ?_
  | refine u__law_any ?_ ?_ ?_
  | refine u__law_any_th ?_ ?_ ?_
  | refine u__law_kinds ?_ ?_ ?_ ?_ ?_
  | refine u__law_table ?_ ?_ ?_
  | refine u__law_journal ?_ ?_ ?_ ?_ ?_
  | refine u__law_versions ?_ ?_ ?_ ?_ ?_
  | refine u__law_plates ?_ ?_ ?_ ?_ ?_ ?_ ?_ ?_
  | refine u_Table_init ?_ ?_
  | refine u_is_functions ?_ ?_ ?_
  | refine u_is_functions_ty ?_ ?_ ?_ ?_
  | refine u_is_bits_ty ?_ ?_ ?_
  | refine u_bits_by_version ?_ ?_ ?_ ?_ ?_
  | refine u_bits_of ?_ ?_ ?_ ?_ ?_
  | refine u_is_parting ?_ ?_ ?_ ?_
  | refine u_is_parting_ty ?_ ?_ ?_ ?_ ?_
  | refine u_parting ?_ ?_ ?_ ?_)
local macro_rules | `(tactic| walk_at "zs1") => `(tactic| first
  | walk_at "zq"
  | walk_at "zu"
  | walk_at "zb")
local macro_rules | `(tactic| walk_at "zs") => `(tactic| repeat walk_at "zs1")
end
end K03
end
section
set_option Elab.async false
set_option linter.all false
set_option maxRecDepth 100000
set_option maxHeartbeats 4000000
namespace K03
open PySem PySem.Spec PyProof.Rows L2 Zq K02
open C8 (Cal Mak pe_c pe_mk pe_gc)
local macro_rules | `(tactic| walk_at "zq") => `(tactic| first
  | with_reducible refine ws_seq ?_
  | with_reducible refine ws_asg ?_
  | (with_reducible apply ws_asgG)
  | with_reducible refine ws_next ?_
  | with_reducible refine ws_ret ?_
  | with_reducible refine ws_if ?_
  | with_reducible refine ws_drop (te := tCall _ _ _ _) ?_
  | with_reducible refine as_dy ?_
  | ((with_reducible apply we_var); focus rfl)
  | with_reducible refine we_int ?_
  | with_reducible refine we_bl ?_
  | with_reducible refine we_non ?_
  | with_reducible refine we_ty ?_
  | with_reducible refine we_str ?_
  | with_reducible refine we_op2 ?_
  | with_reducible refine we_neg ?_
  | with_reducible refine we_andV ?_
  | with_reducible refine we_orV ?_
  | with_reducible refine we_notV ?_
  | with_reducible refine we_chain ?_
  | with_reducible refine we_if ?_
  | with_reducible refine we_cb ?_
  | with_reducible refine tup_pair ?_
  | with_reducible refine tup_three ?_
  | with_reducible refine tup_nil ?_
  | with_reducible refine we_call ?_
  | with_reducible refine we_callD ?_
  | with_reducible refine we_tup ?_
  | refine we_cells (Tx.cl (by assumption)) (Tx.nc (by assumption)) ?_
  | refine we_kinds (Tx.cl (by assumption)) (Tx.nk (by assumption)) ?_
  | with_reducible refine wt_test ?_
  | with_reducible refine wt_B ?_
  | with_reducible refine wt_not ?_
  | with_reducible refine wt_and ?_
  | with_reducible refine wt_or ?_
  | with_reducible refine wt_yes ?_
  | with_reducible refine wa_cons ?_
  | with_reducible refine wa_nil ?_
  | with_reducible refine rr_II ?_
  | with_reducible refine rr_isTrue ?_
  | with_reducible refine rr_notTrue ?_
  | with_reducible refine rr_isN0 ?_
  | with_reducible refine rr_notN0 ?_
  | with_reducible refine rr_isN ?_
  | with_reducible refine rr_notN ?_
  | with_reducible refine rr_IB ?_
  | with_reducible refine rr_eqI ?_
  | with_reducible refine rr_neI ?_
  | with_reducible refine rr_eqB ?_
  | with_reducible refine rr_ixP0 ?_
  | with_reducible refine rr_ixP1 ?_
  | with_reducible refine rr_ix30 ?_
  | with_reducible refine rr_ix31 ?_
  | with_reducible refine rr_ix32 ?_
  | with_reducible refine rr_leK ?_
  | refine rr_eqD ?_
  | refine rr_neD ?_
  | with_reducible refine rr_inT ?_
  | with_reducible refine rr_ninT ?_
  | with_reducible refine rr_inL ?_
  | with_reducible refine rr_ninL ?_
  | with_reducible refine rc_isi kit_ii ?_
  | with_reducible refine rc_isi kit_ib ?_
  | with_reducible refine rc_isi kit_bb ?_
  | with_reducible refine rc_isi kit_tt ?_
  | refine rc_isInt (Tx.isi (by assumption)) ?_
  | refine rc_isBl (Tx.isi (by assumption)) ?_
  | refine rc_isTup (Tx.isi (by assumption)) ?_
  | refine rc_isStr (Tx.isi (by assumption)) ?_
  | with_reducible refine rc_lenL ?_
  | with_reducible refine rc_lenT ?_
  | with_reducible refine rc_lenP ?_
  | with_reducible refine rc_tupL ?_
  | refine rc_lenM rfl ?_
  | refine rc_tupM rfl ?_
  | ((with_reducible apply rr_inM); focus rfl)
  | ((with_reducible apply rr_ninM); focus rfl)
  | with_reducible refine rc_lstTC ?_
  | with_reducible apply wg_setM
  | refine ex_l rfl ?_
  | refine ex_d rfl ?_
  | with_reducible refine rc_int ?_
  | with_reducible refine rc_abs ?_
  | with_reducible refine rc_min2 ?_
  | with_reducible refine rc_all ?_
  | with_reducible refine rc_any ?_
  | with_reducible refine wg_name ?_
  | (apply wg_tup2)
  | (apply wg_tup3))
local macro_rules | `(tactic| walk_at "zqs") => `(tactic| repeat walk_at "zq")
local macro_rules | `(tactic| walk_at "zok1") => `(tactic| first
  | exact trivial
  | exact dy_ok _ _
  | exact cLst_ok _ _
  | exact cDic_ok _ _
  | exact hand_ok _
  | exact handX_ok
  | exact okM_nil
  | exact okE_nil
  | exact okDs_nil
  | refine okM_cons ?_ ?_
  | refine okDs_cons ?_ ?_
  | refine okE_none ?_
  | refine okE_cons ?_ ?_
  | exact mr_ok (Nat.le_of_ble_eq_true rfl)
  | exact Free.l _ _
  | exact Free.k _ _
  | exact Free.ok _ _
  | exact Frg.refl _
  | exact Frg.nil
  | refine Frg.same ?_
  | refine Frg.drop ?_)
local macro_rules | `(tactic| walk_at "zok") => `(tactic| repeat walk_at "zok1")
local macro_rules | `(tactic| walk_at "zcut") => `(tactic| exact Cut.mk (by walk_at "zok") (by walk_at "zok") (by walk_at "zok") rfl)
local macro_rules | `(tactic| walk_at "zb") => `(tactic| first
  | with_reducible refine bt_tt ?_
  | with_reducible refine bt_ff ?_
  | with_reducible refine bt_nt ?_
  | with_reducible refine bt_nf ?_
  | with_reducible refine bt_ft ?_
  | with_reducible refine bt_tf ?_
  | with_reducible refine bt_nt' ?_
  | with_reducible refine bt_nf' ?_
  | (with_reducible refine bt_t ?_ ?_
     focus (first | rfl | assumption))
  | (with_reducible refine bt_f ?_ ?_
     focus (first | rfl | assumption))
  | (with_reducible refine bt_t' ?_ ?_
     focus (first | rfl | assumption))
  | (with_reducible refine bt_f' ?_ ?_
     focus (first | rfl | assumption))
  | (refine ca5 ?_ ?_ ?_ ?_ ?_
     focus (first | rfl | decide)
     focus (first | exact Nat.zero_le _ | exact Nat.le_of_ble_eq_true rfl)
     focus (walk_at "zok"; done)
     focus (walk_at "zok"; done))
  | (refine ca3 ?_ ?_ ?_
     focus (walk_at "zok"; done)
     focus (walk_at "zok"; done)))

local macro_rules | `(tactic| walk_at "zu") => `(tactic| first
  | refine u_is_integer ?_
  | refine u_is_integer_th ?_
  | refine u_is_number_below ?_ ?_
  | refine u_is_number_below_th ?_
  | refine u_is_bits ?_
  | refine u_is_lot ?_ ?_
  | refine u_is_lot_of_cells ?_ ?_ ?_
  | refine u_is_kind ?_ ?_
  | refine u_is_journal ?_ ?_
  | refine u_check_journal ?_ ?_
  | refine u_fresh ?_ ?_ ?_
  | refine u_last_behind ?_ ?_ ?_
  | refine u_last_versions ?_ ?_ ?_
  | refine u_rows_behind ?_ ?_ ?_
  | refine u_source_rows ?_ ?_ ?_
  | refine u_is_version ?_ ?_ ?_ ?_ ?_
  | refine u_is_plates ?_ ?_ ?_ ?_
  | refine u_check_plates ?_ ?_ ?_ ?_
  | refine u_derived_marks ?_ ?_ ?_ ?_
  | refine u__law_is_int ?_ ?_ ?_
  | refine u__law_is_int_th ?_
  | refine u__law_flag ?_
  | refine u__law_history ?_ ?_ ?_
  | refine u__law_closure ?_ ?_ ?_ ?_
  | refine u__law_lost ?_ ?_ ?_ ?_ ?_
  | refine u__law_with ?_ ?_ ?_
  | refine u__law_draw ?_ ?_ ?_
  | refine u__law_any ?_ ?_ ?_
  | refine u__law_any_th ?_ ?_ ?_
  | refine u__law_kinds ?_ ?_ ?_ ?_ ?_
  | refine u__law_table ?_ ?_ ?_
  | refine u__law_journal ?_ ?_ ?_ ?_ ?_
  | refine u__law_versions ?_ ?_ ?_ ?_ ?_
  | refine u__law_plates ?_ ?_ ?_ ?_ ?_ ?_ ?_ ?_
  | refine u_Table_init ?_ ?_
  | refine u_is_functions ?_ ?_ ?_
  | refine u_is_functions_ty ?_ ?_ ?_ ?_
  | refine u_is_bits_ty ?_ ?_ ?_
  | refine u_bits_by_version ?_ ?_ ?_ ?_ ?_
  | refine u_bits_of ?_ ?_ ?_ ?_ ?_
  | refine u_is_parting ?_ ?_ ?_ ?_
  | refine u_is_parting_ty ?_ ?_ ?_ ?_ ?_
  | refine u_parting ?_ ?_ ?_ ?_)
local macro_rules | `(tactic| walk_at "zs1") => `(tactic| first
  | walk_at "zq"
  | walk_at "zu"
  | walk_at "zb")
local macro_rules | `(tactic| walk_at "zs") => `(tactic| repeat walk_at "zs1")
section
variable {P : Program} {w : World} {c : Cc} {mg : Str → Option Value} {base : Heap}
open IsTh (to)
theorem th_nil : dy (Tp.mk ([] : List Int)) = dy (Th.tup []) := (IsTh.eq (Tp.mk ([] : List Int))).symm
theorem th_tup1 (x : Th) : dy (Tp.mk [x]) = dy (Th.tup [x]) := (th_tup [x]).symm
/-- _law_deep -/
def sp__law_deep : ASp := fun ds M P => ∃ n : Int, ds = [dy n] ∧ 0 ≤ n ∧ n ≤ 31 ∧ ∀ x : Th, x.wid 1 → P (dy x) M
theorem sc__law_deep : FnScope ["_law_many", "_law_thing", "_law_turn"] ["_law_many"] (defScope s__law_deep) := ⟨rfl, rfl, rfl, by decide +kernel, rfl, by decide +kernel, by decide +kernel⟩
theorem ok__law_deep {f : Addr} {fd : FuncData} (F : Fun c.K "_law_deep" "_law_deep" s__law_deep f fd) (T : Tb mg) (X : Tx c)  :
    FnOk P w c.K mg base CX0 1 f fd ["_law_many"] (spOf c 1 0 sp__law_deep) := by
  refine F.ok sc__law_deep (fun vs H Q E h => ?_) (fun cdv A outer s H vs Q E hr h => ?_)
  · obtain ⟨as, F, ds, M, P, _, hn, _, rd, _⟩ := h
    rw [rd.length, hn]; rfl
  · have hu1 : (A.deeper (envOfC "_law_deep" (defScope s__law_deep) s.heap.objs.size f cdv)).units + 1 < cLine := hu_of hr
    have hu8 : (A.deeper (envOfC "_law_deep" (defScope s__law_deep) s.heap.objs.size f cdv)).units + 8 < cLine := by have := hr.un; omega
    have hu16 : (A.deeper (envOfC "_law_deep" (defScope s__law_deep) s.heap.objs.size f cdv)).units + 16 < cLine := by have := hr.un; omega
    have hu64 : (A.deeper (envOfC "_law_deep" (defScope s__law_deep) s.heap.objs.size f cdv)).units + 64 < cLine := by have := hr.un; omega
    have hu65 : (A.deeper (envOfC "_law_deep" (defScope s__law_deep) s.heap.objs.size f cdv)).units + 65 < cLine := by have := hr.un; omega
    refine ⟨_, (pss_cons (ps_set (i := 1) sc__law_deep.nd rfl (Or.inl rfl) (pe_tup pa_nil))
        (pss_cons (ps_for PassesOwn.never rfl (pi_range1 rfl T.b_range (pa_cons (pv 0) pa_nil)) (pg_name (i := 2) sc__law_deep.nd rfl (Or.inl rfl)) (pss_one (ps_set (i := 1) sc__law_deep.nd rfl (Or.inl rfl) (pe_tup (pa_cons (pv 1) pa_nil)))))
        (pss_one (ps_ret (pv 1))))), ?_⟩
    refine body_ok h (by decide) fun ds M R hds hM hS => ?_
    obtain ⟨n, rfl, h0, h1, hP⟩ := hS
    obtain rfl := List.length_eq_zero_iff.mp hM
    show WS c 0 _ [some (dy n), none, none] [] _ _
    walk_at "zs"
    rw [th_nil]
    refine ws_for (S := Th) (β := Int) (ts := [2]) (fun _ s => s.wid 1) (fun s => [some (dy n), some (dy s), none]) (fun _ => []) ?_
    refine wi_range ?_
    walk_at "zs"
    refine ⟨n, rfl, h0, by omega, upto n.toNat, rfl, .tup [], wid_tup.mpr ⟨by decide, fun x h => by simp at h⟩, by walk_at "zcut", fun pre y post s e hJ => ?_, fun s hJ => ?_⟩
    · walk_at "zs"
      refine tup_tp (α := Th) [s] rfl (by simp) ?_
      rw [th_tup1]
      walk_at "zs"
      refine ⟨.tup [s], wid_tup.mpr ⟨by simp, fun x h => ?_⟩, by walk_at "zcut"⟩
      have : x = s := by simpa using h
      rw [this]; exact hJ
    · walk_at "zs"
      exact hP s hJ

theorem u__law_deep {M : Mem} {P : Dy → Mem → Prop} {n : Int} (h : ∀ x : Th, x.wid 1 → P (dy x) M) (h1 : 0 ≤ n) (h2 : n ≤ 31) : sp__law_deep [dy n] M P := ⟨n, rfl, h1, h2, h⟩
local macro_rules | `(tactic| walk_at "zu") => `(tactic| first
  | refine u_is_integer ?_
  | refine u_is_integer_th ?_
  | refine u_is_number_below ?_ ?_
  | refine u_is_number_below_th ?_
  | refine u_is_bits ?_
  | refine u_is_lot ?_ ?_
  | refine u_is_lot_of_cells ?_ ?_ ?_
  | refine u_is_kind ?_ ?_
  | refine u_is_journal ?_ ?_
  | refine u_check_journal ?_ ?_
  | refine u_fresh ?_ ?_ ?_
  | refine u_last_behind ?_ ?_ ?_
  | refine u_last_versions ?_ ?_ ?_
  | refine u_rows_behind ?_ ?_ ?_
  | refine u_source_rows ?_ ?_ ?_
  | refine u_is_version ?_ ?_ ?_ ?_ ?_
  | refine u_is_plates ?_ ?_ ?_ ?_
  | refine u_check_plates ?_ ?_ ?_ ?_
  | refine u_derived_marks ?_ ?_ ?_ ?_
  | refine u__law_is_int ?_ ?_ ?_
  | refine u__law_is_int_th ?_
  | refine u__law_flag ?_
  | refine u__law_history ?_ ?_ ?_
  | refine u__law_closure ?_ ?_ ?_ ?_
  | refine u__law_lost ?_ ?_ ?_ ?_ ?_
  | refine u__law_with ?_ ?_ ?_
  | refine u__law_draw ?_ ?_ ?_
  | refine u__law_any ?_ ?_ ?_
  | refine u__law_any_th ?_ ?_ ?_
  | refine u__law_kinds ?_ ?_ ?_ ?_ ?_
  | refine u__law_table ?_ ?_ ?_
  | refine u__law_journal ?_ ?_ ?_ ?_ ?_
  | refine u__law_versions ?_ ?_ ?_ ?_ ?_
  | refine u__law_plates ?_ ?_ ?_ ?_ ?_ ?_ ?_ ?_
  | refine u_Table_init ?_ ?_
  | refine u_is_functions ?_ ?_ ?_
  | refine u_is_functions_ty ?_ ?_ ?_ ?_
  | refine u_is_bits_ty ?_ ?_ ?_
  | refine u_bits_by_version ?_ ?_ ?_ ?_ ?_
  | refine u_bits_of ?_ ?_ ?_ ?_ ?_
  | refine u_is_parting ?_ ?_ ?_ ?_
  | refine u_is_parting_ty ?_ ?_ ?_ ?_ ?_
  | refine u_parting ?_ ?_ ?_ ?_
  | refine u__law_deep ?_ ?_ ?_)
local macro_rules | `(tactic| walk_at "zs1") => `(tactic| first
  | walk_at "zq"
  | walk_at "zu"
  | walk_at "zb")
local macro_rules | `(tactic| walk_at "zs") => `(tactic| repeat walk_at "zs1")
/-- _law_odd -/
def sp__law_odd : ASp := fun ds M P => ∃ t : Tab, ds = [dy (MR.mk 0), dy t] ∧ M = [cHand] ∧ ∀ x : Th, x.wid 2 → P (dy x) [cHand]
theorem sc__law_odd : FnScope ["_law_hand_here", "_law_other", "_law_some"] ["_law_hand_here", "_law_other"] (defScope s__law_odd) := ⟨rfl, rfl, rfl, by decide +kernel, rfl, by decide +kernel, by decide +kernel⟩
theorem ok__law_odd {f : Addr} {fd : FuncData} (F : Fun c.K "_law_odd" "_law_odd" s__law_odd f fd) (T : Tb mg) (X : Tx c) (g__law_any : Cal P w c.K mg base 2 "_law_any" (spOf c 2 1 sp__law_any) []) (g__law_deep : Cal P w c.K mg base 1 "_law_deep" (spOf c 1 0 sp__law_deep) []) (g__law_draw : Cal P w c.K mg base 1 "_law_draw" (spOf c 2 1 sp__law_draw) []) :
    FnOk P w c.K mg base CX0 3 f fd ["_law_hand_here", "_law_other"] (spOf c 2 1 sp__law_odd) := by
  refine F.ok sc__law_odd (fun vs H Q E h => ?_) (fun cdv A outer s H vs Q E hr h => ?_)
  · obtain ⟨as, F, ds, M, P, _, hn, _, rd, _⟩ := h
    rw [rd.length, hn]; rfl
  · have hu1 : (A.deeper (envOfC "_law_odd" (defScope s__law_odd) s.heap.objs.size f cdv)).units + 1 < cLine := hu_of hr
    have hu8 : (A.deeper (envOfC "_law_odd" (defScope s__law_odd) s.heap.objs.size f cdv)).units + 8 < cLine := by have := hr.un; omega
    have hu16 : (A.deeper (envOfC "_law_odd" (defScope s__law_odd) s.heap.objs.size f cdv)).units + 16 < cLine := by have := hr.un; omega
    have hu64 : (A.deeper (envOfC "_law_odd" (defScope s__law_odd) s.heap.objs.size f cdv)).units + 64 < cLine := by have := hr.un; omega
    have hu65 : (A.deeper (envOfC "_law_odd" (defScope s__law_odd) s.heap.objs.size f cdv)).units + 65 < cLine := by have := hr.un; omega
    refine ⟨_, (pss_cons (ps_set (i := 2) sc__law_odd.nd rfl (Or.inl rfl) (pe_lst (pa_cons pe_non (pa_cons pe_bl (pa_cons pe_bl (pa_cons (pe_un un_neg pe_int) (pa_cons pe_int (pa_cons pe_int (pa_cons pe_int (pa_cons pe_str (pa_cons (pe_tup pa_nil) (pa_cons (pe_lst pa_nil) (pa_cons pe_dnewK (pa_cons (pe_tup (pa_cons pe_int pa_nil)) (pa_cons (pe_lst (pa_cons pe_int pa_nil)) (pa_cons (pe_tup (pa_cons pe_bl pa_nil)) (pa_cons (pe_tup (pa_cons pe_int (pa_cons pe_int pa_nil))) (pa_cons (pe_op op_pow pe_int pe_int) (pa_cons (pv 1) (pa_cons pe_str (pa_cons (pe_tup (pa_cons pe_non pa_nil)) pa_nil)))))))))))))))))))))
        (pss_one (ps_ret (pe_c g__law_any hr (by decide) rfl (pa_cons (pv 0) (pa_cons (pe_op (r := Zr.rCatL c.K) Zr.op_catL (pv 2) (pe_lst (pa_cons (pe_c g__law_deep hr (by decide) rfl (pa_cons (pe_op op_add pe_int (pe_c g__law_draw hr (by decide) rfl (pa_cons (pv 0) (pa_cons pe_int pa_nil)))) pa_nil)) pa_nil))) pa_nil)))))), ?_⟩
    refine body_ok h (by decide) fun ds M R hds hM hS => ?_
    obtain ⟨t, rfl, rfl, hP⟩ := hS
    show WS c 1 _ [some (dy (MR.mk 0)), some (dy t), none] [cHand] _ _
    walk_at "zs"
    refine we_lst (α := Th) ?_
    walk_at "zs"
    refine we_lst (α := Int) ?_
    walk_at "zs"
    refine ⟨[], rfl, by decide, ?_⟩
    walk_at "zs"
    refine we_dic0 ?_
    walk_at "zs"
    refine tup_tp (α := Int) [0] rfl (by decide) ?_
    walk_at "zs"
    refine we_lst (α := Int) ?_
    walk_at "zs"
    refine ⟨[0], rfl, by decide, ?_⟩
    walk_at "zs"
    refine tup_tp (α := Bool) [true] rfl (by decide) ?_
    walk_at "zs"
    refine rr_pow ?_ ⟨by decide, by decide, by decide⟩
    walk_at "zs"
    refine tup_tp (α := Unit) [()] rfl (by decide) ?_
    walk_at "zs"
    refine ⟨[to (), to true, to false, to (-1 : Int), to (0 : Int), to (1 : Int), to (2 : Int), to ("0" : Str), to (Tp.mk ([] : List Int)), to ([] : List Int), Th.dic, to (Tp.mk [(0 : Int)]), to [(0 : Int)], to (Tp.mk [true]), to ((0 : Int), (0 : Int)), to ((10 : Int) ^ (40 : Int).toNat), to t, to ("" : Str), to (Tp.mk [()])], by simp only [List.map_cons, List.map_nil, IsTh.eq], by simp, ?_⟩
    generalize hxs : [to (), to true, to false, to (-1 : Int), to (0 : Int), to (1 : Int), to (2 : Int), to ("0" : Str), to (Tp.mk ([] : List Int)), to ([] : List Int), Th.dic, to (Tp.mk [(0 : Int)]), to [(0 : Int)], to (Tp.mk [true]), to ((0 : Int), (0 : Int)), to ((10 : Int) ^ (40 : Int).toNat), to t, to ("" : Str), to (Tp.mk [()])] = xs
    have hw : ∀ x, x ∈ xs → x.wid 2 := by
      subst hxs
      intro x hx
      simp only [List.mem_cons, List.not_mem_nil, or_false] at hx
      rcases hx with rfl | rfl | rfl | rfl | rfl | rfl | rfl | rfl | rfl | rfl | rfl | rfl | rfl | rfl | rfl | rfl | rfl | rfl | rfl <;> simp [IsTh.to, Th.wid, Th.wids]
    have hl : xs.length = 19 := by subst hxs; rfl
    walk_at "zs"
    refine we_lst (α := Th) ?_
    walk_at "zs"
    · intro r r0 r1
      walk_at "zs"
      · intro x hx
        walk_at "zs"
        refine ⟨[x], rfl, by simp, ?_⟩
        walk_at "zs"
        refine rr_catL (by rw [hl]; simp) ?_
        walk_at "zs"
        · intro y hy
          walk_at "zs"
          refine hP y ?_
          rcases List.mem_append.mp hy with z | z
          · exact hw y z
          · have : y = x := by simpa using z
            rw [this]; exact Th.wid_mono (by decide) x hx
        · simp
        · rw [List.length_append, hl]; simp
      · omega
      · omega
    · decide
    · decide

theorem u__law_odd {P : Dy → Mem → Prop} {t : Tab} (h : ∀ x : Th, x.wid 2 → P (dy x) [cHand]) : sp__law_odd [dy (MR.mk 0), dy t] [cHand] P := ⟨t, rfl, rfl, h⟩
local macro_rules | `(tactic| walk_at "zu") => `(tactic| first
  | refine u_is_integer ?_
  | refine u_is_integer_th ?_
  | refine u_is_number_below ?_ ?_
  | refine u_is_number_below_th ?_
  | refine u_is_bits ?_
  | refine u_is_lot ?_ ?_
  | refine u_is_lot_of_cells ?_ ?_ ?_
  | refine u_is_kind ?_ ?_
  | refine u_is_journal ?_ ?_
  | refine u_check_journal ?_ ?_
  | refine u_fresh ?_ ?_ ?_
  | refine u_last_behind ?_ ?_ ?_
  | refine u_last_versions ?_ ?_ ?_
  | refine u_rows_behind ?_ ?_ ?_
  | refine u_source_rows ?_ ?_ ?_
  | refine u_is_version ?_ ?_ ?_ ?_ ?_
  | refine u_is_plates ?_ ?_ ?_ ?_
  | refine u_check_plates ?_ ?_ ?_ ?_
  | refine u_derived_marks ?_ ?_ ?_ ?_
  | refine u__law_is_int ?_ ?_ ?_
  | refine u__law_is_int_th ?_
  | refine u__law_flag ?_
  | refine u__law_history ?_ ?_ ?_
  | refine u__law_closure ?_ ?_ ?_ ?_
  | refine u__law_lost ?_ ?_ ?_ ?_ ?_
  | refine u__law_with ?_ ?_ ?_
  | refine u__law_draw ?_ ?_ ?_
  | refine u__law_any ?_ ?_ ?_
  | refine u__law_any_th ?_ ?_ ?_
  | refine u__law_kinds ?_ ?_ ?_ ?_ ?_
  | refine u__law_table ?_ ?_ ?_
  | refine u__law_journal ?_ ?_ ?_ ?_ ?_
  | refine u__law_versions ?_ ?_ ?_ ?_ ?_
  | refine u__law_plates ?_ ?_ ?_ ?_ ?_ ?_ ?_ ?_
  | refine u_Table_init ?_ ?_
  | refine u_is_functions ?_ ?_ ?_
  | refine u_is_functions_ty ?_ ?_ ?_ ?_
  | refine u_is_bits_ty ?_ ?_ ?_
  | refine u_bits_by_version ?_ ?_ ?_ ?_ ?_
  | refine u_bits_of ?_ ?_ ?_ ?_ ?_
  | refine u_is_parting ?_ ?_ ?_ ?_
  | refine u_is_parting_ty ?_ ?_ ?_ ?_ ?_
  | refine u_parting ?_ ?_ ?_ ?_
  | refine u__law_deep ?_ ?_ ?_
  | refine u__law_odd ?_)
local macro_rules | `(tactic| walk_at "zs1") => `(tactic| first
  | walk_at "zq"
  | walk_at "zu"
  | walk_at "zb")
local macro_rules | `(tactic| walk_at "zs") => `(tactic| repeat walk_at "zs1")
end
end K03
end
section
set_option Elab.async false
set_option linter.all false
set_option maxRecDepth 100000
set_option maxHeartbeats 4000000
namespace K03
open PySem PySem.Spec PyProof.Rows L2 Zq K02
open C8 (Cal Mak pe_c pe_mk pe_gc)
local macro_rules | `(tactic| walk_at "zq") => `(tactic| first
  | with_reducible refine ws_seq ?_
  | with_reducible refine ws_asg ?_
  | (with_reducible apply ws_asgG)
  | with_reducible refine ws_next ?_
  | with_reducible refine ws_ret ?_
  | with_reducible refine ws_if ?_
  | with_reducible refine ws_drop (te := tCall _ _ _ _) ?_
  | with_reducible refine as_dy ?_
  | ((with_reducible apply we_var); focus rfl)
  | with_reducible refine we_int ?_
  | with_reducible refine we_bl ?_
  | with_reducible refine we_non ?_
  | with_reducible refine we_ty ?_
  | with_reducible refine we_str ?_
  | with_reducible refine we_op2 ?_
  | with_reducible refine we_neg ?_
  | with_reducible refine we_andV ?_
  | with_reducible refine we_orV ?_
  | with_reducible refine we_notV ?_
  | with_reducible refine we_chain ?_
  | with_reducible refine we_if ?_
  | with_reducible refine we_cb ?_
  | with_reducible refine tup_pair ?_
  | with_reducible refine tup_three ?_
  | with_reducible refine tup_nil ?_
  | with_reducible refine we_call ?_
  | with_reducible refine we_callD ?_
  | with_reducible refine we_tup ?_
  | refine we_cells (Tx.cl (by assumption)) (Tx.nc (by assumption)) ?_
  | refine we_kinds (Tx.cl (by assumption)) (Tx.nk (by assumption)) ?_
  | with_reducible refine wt_test ?_
  | with_reducible refine wt_B ?_
  | with_reducible refine wt_not ?_
  | with_reducible refine wt_and ?_
  | with_reducible refine wt_or ?_
  | with_reducible refine wt_yes ?_
  | with_reducible refine wa_cons ?_
  | with_reducible refine wa_nil ?_
  | with_reducible refine rr_II ?_
  | with_reducible refine rr_isTrue ?_
  | with_reducible refine rr_notTrue ?_
  | with_reducible refine rr_isN0 ?_
  | with_reducible refine rr_notN0 ?_
  | with_reducible refine rr_isN ?_
  | with_reducible refine rr_notN ?_
  | with_reducible refine rr_IB ?_
  | with_reducible refine rr_eqI ?_
  | with_reducible refine rr_neI ?_
  | with_reducible refine rr_eqB ?_
  | with_reducible refine rr_ixP0 ?_
  | with_reducible refine rr_ixP1 ?_
  | with_reducible refine rr_ix30 ?_
  | with_reducible refine rr_ix31 ?_
  | with_reducible refine rr_ix32 ?_
  | with_reducible refine rr_leK ?_
  | refine rr_eqD ?_
  | refine rr_neD ?_
  | with_reducible refine rr_inT ?_
  | with_reducible refine rr_ninT ?_
  | with_reducible refine rr_inL ?_
  | with_reducible refine rr_ninL ?_
  | with_reducible refine rc_isi kit_ii ?_
  | with_reducible refine rc_isi kit_ib ?_
  | with_reducible refine rc_isi kit_bb ?_
  | with_reducible refine rc_isi kit_tt ?_
  | refine rc_isInt (Tx.isi (by assumption)) ?_
  | refine rc_isBl (Tx.isi (by assumption)) ?_
  | refine rc_isTup (Tx.isi (by assumption)) ?_
  | refine rc_isStr (Tx.isi (by assumption)) ?_
  | with_reducible refine rc_lenL ?_
  | with_reducible refine rc_lenT ?_
  | with_reducible refine rc_lenP ?_
  | with_reducible refine rc_tupL ?_
  | refine rc_lenM rfl ?_
  | refine rc_tupM rfl ?_
  | ((with_reducible apply rr_inM); focus rfl)
  | ((with_reducible apply rr_ninM); focus rfl)
  | with_reducible refine rc_lstTC ?_
  | with_reducible apply wg_setM
  | refine ex_l rfl ?_
  | refine ex_d rfl ?_
  | with_reducible refine rc_int ?_
  | with_reducible refine rc_abs ?_
  | with_reducible refine rc_min2 ?_
  | with_reducible refine rc_all ?_
  | with_reducible refine rc_any ?_
  | with_reducible refine wg_name ?_
  | (apply wg_tup2)
  | (apply wg_tup3))
local macro_rules | `(tactic| walk_at "zqs") => `(tactic| repeat walk_at "zq")
local macro_rules | `(tactic| walk_at "zok1") => `(tactic| first
  | exact trivial
  | exact dy_ok _ _
  | exact cLst_ok _ _
  | exact cDic_ok _ _
  | exact hand_ok _
  | exact handX_ok
  | exact okM_nil
  | exact okE_nil
  | exact okDs_nil
  | refine okM_cons ?_ ?_
  | refine okDs_cons ?_ ?_
  | refine okE_none ?_
  | refine okE_cons ?_ ?_
  | exact mr_ok (Nat.le_of_ble_eq_true rfl)
  | exact Free.l _ _
  | exact Free.k _ _
  | exact Free.ok _ _
  | exact Frg.refl _
  | exact Frg.nil
  | refine Frg.same ?_
  | refine Frg.drop ?_)
local macro_rules | `(tactic| walk_at "zok") => `(tactic| repeat walk_at "zok1")
local macro_rules | `(tactic| walk_at "zcut") => `(tactic| exact Cut.mk (by walk_at "zok") (by walk_at "zok") (by walk_at "zok") rfl)
local macro_rules | `(tactic| walk_at "zb") => `(tactic| first
  | with_reducible refine bt_tt ?_
  | with_reducible refine bt_ff ?_
  | with_reducible refine bt_nt ?_
  | with_reducible refine bt_nf ?_
  | with_reducible refine bt_ft ?_
  | with_reducible refine bt_tf ?_
  | with_reducible refine bt_nt' ?_
  | with_reducible refine bt_nf' ?_
  | (with_reducible refine bt_t ?_ ?_
     focus (first | rfl | assumption))
  | (with_reducible refine bt_f ?_ ?_
     focus (first | rfl | assumption))
  | (with_reducible refine bt_t' ?_ ?_
     focus (first | rfl | assumption))
  | (with_reducible refine bt_f' ?_ ?_
     focus (first | rfl | assumption))
  | (refine ca5 ?_ ?_ ?_ ?_ ?_
     focus (first | rfl | decide)
     focus (first | exact Nat.zero_le _ | exact Nat.le_of_ble_eq_true rfl)
     focus (walk_at "zok"; done)
     focus (walk_at "zok"; done))
  | (refine ca3 ?_ ?_ ?_
     focus (walk_at "zok"; done)
     focus (walk_at "zok"; done)))

local macro_rules | `(tactic| walk_at "zu") => `(tactic| first
  | refine u_is_integer ?_
  | refine u_is_integer_th ?_
  | refine u_is_number_below ?_ ?_
  | refine u_is_number_below_th ?_
  | refine u_is_bits ?_
  | refine u_is_lot ?_ ?_
  | refine u_is_lot_of_cells ?_ ?_ ?_
  | refine u_is_kind ?_ ?_
  | refine u_is_journal ?_ ?_
  | refine u_check_journal ?_ ?_
  | refine u_fresh ?_ ?_ ?_
  | refine u_last_behind ?_ ?_ ?_
  | refine u_last_versions ?_ ?_ ?_
  | refine u_rows_behind ?_ ?_ ?_
  | refine u_source_rows ?_ ?_ ?_
  | refine u_is_version ?_ ?_ ?_ ?_ ?_
  | refine u_is_plates ?_ ?_ ?_ ?_
  | refine u_check_plates ?_ ?_ ?_ ?_
  | refine u_derived_marks ?_ ?_ ?_ ?_
  | refine u__law_is_int ?_ ?_ ?_
  | refine u__law_is_int_th ?_
  | refine u__law_flag ?_
  | refine u__law_history ?_ ?_ ?_
  | refine u__law_closure ?_ ?_ ?_ ?_
  | refine u__law_lost ?_ ?_ ?_ ?_ ?_
  | refine u__law_with ?_ ?_ ?_
  | refine u__law_draw ?_ ?_ ?_
  | refine u__law_any ?_ ?_ ?_
  | refine u__law_any_th ?_ ?_ ?_
  | refine u__law_kinds ?_ ?_ ?_ ?_ ?_
  | refine u__law_table ?_ ?_ ?_
  | refine u__law_journal ?_ ?_ ?_ ?_ ?_
  | refine u__law_versions ?_ ?_ ?_ ?_ ?_
  | refine u__law_plates ?_ ?_ ?_ ?_ ?_ ?_ ?_ ?_
  | refine u_Table_init ?_ ?_
  | refine u_is_functions ?_ ?_ ?_
  | refine u_is_functions_ty ?_ ?_ ?_ ?_
  | refine u_is_bits_ty ?_ ?_ ?_
  | refine u_bits_by_version ?_ ?_ ?_ ?_ ?_
  | refine u_bits_of ?_ ?_ ?_ ?_ ?_
  | refine u_is_parting ?_ ?_ ?_ ?_
  | refine u_is_parting_ty ?_ ?_ ?_ ?_ ?_
  | refine u_parting ?_ ?_ ?_ ?_
  | refine u__law_deep ?_ ?_ ?_
  | refine u__law_odd ?_)
local macro_rules | `(tactic| walk_at "zs1") => `(tactic| first
  | walk_at "zq"
  | walk_at "zu"
  | walk_at "zb")
local macro_rules | `(tactic| walk_at "zs") => `(tactic| repeat walk_at "zs1")
section
variable {P : Program} {w : World} {c : Cc} {mg : Str → Option Value} {base : Heap}
/-- _law_bits -/
def sp__law_bits : ASp := fun ds M P => ∃ (n : Int) (wr : List Int) (rd : List (Tp Int)) (la : List Int) (fs : List Fn) (b : List Int), ds = [dy (T3.mk wr rd la), dy (Tp.mk fs), dy (Tp.mk b)] ∧ RdOk n rd ∧ n ≤ 8 ∧ rd.length ≤ 400 ∧ FnsOk rd fs ∧ BegOk n b ∧ P (dy (Dc.mk (bitsD rd fs b))) M
theorem sc__law_bits : FnScope ["_law_history_here", "_law_functions", "_law_begin", "_law_found", "_law_deed", "_law_some", "_law_at", "_law_source", "_law_cell", "_law_bit"] ["_law_history_here", "_law_functions", "_law_begin"] (defScope s__law_bits) := ⟨rfl, rfl, rfl, by decide +kernel, rfl, by decide +kernel, by decide +kernel⟩
theorem ok__law_bits {f : Addr} {fd : FuncData} (F : Fun c.K "_law_bits" "_law_bits" s__law_bits f fd) (T : Tb mg) (X : Tx c)  :
    FnOk P w c.K mg base CX0 1 f fd ["_law_history_here", "_law_functions", "_law_begin"] (spOf c 3 0 sp__law_bits) := by
  refine F.ok sc__law_bits (fun vs H Q E h => ?_) (fun cdv A outer s H vs Q E hr h => ?_)
  · obtain ⟨as, F, ds, M, P, _, hn, _, rd, _⟩ := h
    rw [rd.length, hn]; rfl
  · have hu1 : (A.deeper (envOfC "_law_bits" (defScope s__law_bits) s.heap.objs.size f cdv)).units + 1 < cLine := hu_of hr
    have hu8 : (A.deeper (envOfC "_law_bits" (defScope s__law_bits) s.heap.objs.size f cdv)).units + 8 < cLine := by have := hr.un; omega
    have hu16 : (A.deeper (envOfC "_law_bits" (defScope s__law_bits) s.heap.objs.size f cdv)).units + 16 < cLine := by have := hr.un; omega
    have hu64 : (A.deeper (envOfC "_law_bits" (defScope s__law_bits) s.heap.objs.size f cdv)).units + 64 < cLine := by have := hr.un; omega
    have hu65 : (A.deeper (envOfC "_law_bits" (defScope s__law_bits) s.heap.objs.size f cdv)).units + 65 < cLine := by have := hr.un; omega
    refine ⟨_, (pss_cons (ps_set (i := 3) sc__law_bits.nd rfl (Or.inl rfl) (pe_callTy (r := Zq.rDictP c.K) (call_dictP rfl) (by rfl) T.b_dict (by decide +kernel) (pa_cons (pe_lc (own := [("_law_cell", 8), ("_law_bit", 9)]) (g := (gTup c.K 2 (gCons (gName 8) (gCons (gName 9) gNil)))) rfl sc__law_bits.nd (Zr.pi_enumT rfl T.b_enumerate (pa_cons (pv 2) pa_nil)) (blkOk_by (N := ["_law_history_here", "_law_functions", "_law_begin", "_law_found", "_law_deed", "_law_some", "_law_at", "_law_source", "_law_cell", "_law_bit"]) (sc := defScope s__law_bits) (by decide +kernel)) (fun _ _ _ _ _ => (pg_tup rfl (pgs_cons (pg_name (i := 8) sc__law_bits.nd rfl (Or.inl rfl)) (pgs_cons (pg_name (i := 9) sc__law_bits.nd rfl (Or.inl rfl)) pgs_nil)))) (fun _ _ _ _ _ => pts_nil) (fun _ _ _ _ _ => (pe_tup (pa_cons (pe_op op_sub (pe_un un_neg pe_int) (pv 8)) (pa_cons (pv 9) pa_nil))))) pa_nil)))
        (pss_cons (ps_for PassesOwn.never rfl (pi_enum rfl T.b_enumerate (pa_cons (pe_ix (r := rIxT c.K) ix_tup (pv 0) pe_int (fun _ _ => rfl)) pa_nil)) (pg_tup rfl (pgs_cons (pg_name (i := 4) sc__law_bits.nd rfl (Or.inl rfl)) (pgs_cons (pg_name (i := 5) sc__law_bits.nd rfl (Or.inl rfl)) pgs_nil))) (pss_cons (ps_set (i := 6) sc__law_bits.nd rfl (Or.inl rfl) pe_int)
        (pss_cons (ps_for PassesOwn.never rfl (pi_tup (pv 5)) (pg_name (i := 7) sc__law_bits.nd rfl (Or.inl rfl)) (pss_one (ps_set (i := 6) sc__law_bits.nd rfl (Or.inl rfl) (pe_op op_add (pe_op op_mul pe_int (pv 6)) (pe_dget hu1 (pv 3) (pv 7) (fun _ _ => rfl))))))
        (pss_one (ps_dput hu1 (pv 3) (pv 4) (pe_ix (r := rIxT c.K) ix_tup (pe_ix (r := rIxT c.K) ix_tup (pv 1) (pv 4) (fun _ _ => rfl)) (pv 6) (fun _ _ => rfl)) rfl)))))
        (pss_one (ps_ret (pv 3))))), ?_⟩
    refine body_ok h (by decide) fun ds M R hds hM hS => ?_
    obtain ⟨n, wr, rd, la, fs, b, rfl, rok, n8, rl, hf, hb, hP⟩ := hS
    obtain rfl := List.length_eq_zero_iff.mp hM
    show WS c 0 _ [some (dy (T3.mk wr rd la)), some (dy (Tp.mk fs)), some (dy (Tp.mk b)), none, none, none, none, none, none, none] [] _ _
    have bl := hb.len
    walk_at "zs"
    refine we_lcM (β := Int × Int) (γ := Int × Int) ([8] ++ [9]) (fun q => (-1 - q.1, q.2)) (fun t ht => ht) trivial ?_
    refine wi_enumT (α := Int) ?_
    walk_at "zs"
    refine ⟨⟨b⟩, rfl, rfl, nums b, rfl, by rw [nums_len]; omega, fun y hy acc => ?_, ?_⟩
    · walk_at "zs"
      refine ⟨rfl, ?_⟩
      walk_at "zs"
      exact ⟨rfl, rfl⟩
    walk_at "zs"
    refine rc_dictC (β := Int) ?_
    have e0 : dmerge ((nums b).map fun q => (-1 - q.1, q.2)) = beg b := by unfold dmerge beg; rw [List.foldl_map]
    rw [e0]
    walk_at "zs"
    refine ws_fold (β := Int × Tp Int) ([4] ++ [5]) (bstep fs) (beg b) (fun _ => [some (dy (T3.mk wr rd la)), some (dy (Tp.mk fs)), some (dy (Tp.mk b)), some (dy (MR.mk 0)), none, none, none, none, none, none]) (fun s => [cDic s]) (fun pre s => DOk n pre.length s) ?_
    refine wi_enumL (α := Tp Int) ?_
    walk_at "zs"
    refine ⟨_, rfl, nums rd, rfl, dok0 rok.n0 hb, by walk_at "zcut", fun pre y post s e hs hJ => ?_, fun s hs hJ => ?_⟩
    · obtain ⟨h1, h2, h4, hm⟩ := nums_split e
      have row := rok.at_ _ _ h4
      have q := fn_in hf h4 hJ.b
      have st := dok_step hf h4 hJ
      walk_at "zs"
      refine ws_fold (β := Int) ([7]) (fun a v => a * 2 + bit s v) 0 (fun a => [some (dy (T3.mk wr rd la)), some (dy (Tp.mk fs)), some (dy (Tp.mk b)), some (dy (MR.mk 0)), some (dy y.1), some (dy y.2), some (dy a), none, none, none]) (fun _ => [cDic s]) (fun _ _ => True) ?_
      refine wi_tup (α := Int) ?_
      walk_at "zs"
      refine ⟨_, rfl, y.2.l, rfl, trivial, by walk_at "zcut", fun pre2 v post2 a e2 hs2 hJ2 => ?_, fun a hs2 hJ2 => ?_⟩
      · have bv := row.2 v (by rw [e2]; simp)
        walk_at "zs"
        refine rr_mulL ?_ ⟨by decide, by decide⟩
        rw [Int.mul_comm]
        walk_at "zs"
        refine we_dgetM (β := Int) ?_
        walk_at "zs"
        refine ⟨s, bit s v, rfl, hJ.get bv.1 (by omega), ?_⟩
        walk_at "zs"
        exact ⟨trivial, by walk_at "zcut"⟩
      · obtain ⟨g, g1, g2, g3, g4⟩ := q
        have ea : a = num s y.2.l := hs2
        subst ea
        walk_at "zs"
        refine ws_dput (β := Int) ?_
        walk_at "zs"
        refine rr_ixT (xs := Tp.mk fs) (y := g) (by omega) (by rw [h1, Int.toNat_natCast]; exact g1) ?_
        walk_at "zs"
        refine rr_ixT g3 g2 ?_
        have e5 : dput s y.1 (fnAt fs ((pre.length : Nat) : Int) (num s y.2.l)) = bstep fs s y := by unfold bstep; rw [h1]
        walk_at "zs"
        rw [e5]
        refine ⟨hJ.keys, by have := hJ.len; omega, ?_, by walk_at "zcut"⟩
        have e6 : y = (((pre.length : Nat) : Int), y.2) := by rw [← h1]
        rw [List.length_append, e6]
        exact st
    · refine ws_retD (β := Int) ?_
      walk_at "zs"
      exact ⟨_, Nat.zero_le _, rfl, Free.k _ _, trivial, by rw [hs]; exact hP⟩

theorem u__law_bits {M : Mem} {P : Dy → Mem → Prop} {n : Int} {wr : List Int} {rd : List (Tp Int)} {la : List Int} {fs : List Fn} {b : List Int} (h : P (dy (Dc.mk (bitsD rd fs b))) M) (h1 : RdOk n rd) (h2 : n ≤ 8) (h3 : rd.length ≤ 400) (h4 : FnsOk rd fs) (h5 : BegOk n b) : sp__law_bits [dy (T3.mk wr rd la), dy (Tp.mk fs), dy (Tp.mk b)] M P := ⟨n, wr, rd, la, fs, b, rfl, h1, h2, h3, h4, h5, h⟩
local macro_rules | `(tactic| walk_at "zu") => `(tactic| first
  | refine u_is_integer ?_
  | refine u_is_integer_th ?_
  | refine u_is_number_below ?_ ?_
  | refine u_is_number_below_th ?_
  | refine u_is_bits ?_
  | refine u_is_lot ?_ ?_
  | refine u_is_lot_of_cells ?_ ?_ ?_
  | refine u_is_kind ?_ ?_
  | refine u_is_journal ?_ ?_
  | refine u_check_journal ?_ ?_
  | refine u_fresh ?_ ?_ ?_
  | refine u_last_behind ?_ ?_ ?_
  | refine u_last_versions ?_ ?_ ?_
  | refine u_rows_behind ?_ ?_ ?_
  | refine u_source_rows ?_ ?_ ?_
  | refine u_is_version ?_ ?_ ?_ ?_ ?_
  | refine u_is_plates ?_ ?_ ?_ ?_
  | refine u_check_plates ?_ ?_ ?_ ?_
  | refine u_derived_marks ?_ ?_ ?_ ?_
  | refine u__law_is_int ?_ ?_ ?_
  | refine u__law_is_int_th ?_
  | refine u__law_flag ?_
  | refine u__law_history ?_ ?_ ?_
  | refine u__law_closure ?_ ?_ ?_ ?_
  | refine u__law_lost ?_ ?_ ?_ ?_ ?_
  | refine u__law_with ?_ ?_ ?_
  | refine u__law_draw ?_ ?_ ?_
  | refine u__law_any ?_ ?_ ?_
  | refine u__law_any_th ?_ ?_ ?_
  | refine u__law_kinds ?_ ?_ ?_ ?_ ?_
  | refine u__law_table ?_ ?_ ?_
  | refine u__law_journal ?_ ?_ ?_ ?_ ?_
  | refine u__law_versions ?_ ?_ ?_ ?_ ?_
  | refine u__law_plates ?_ ?_ ?_ ?_ ?_ ?_ ?_ ?_
  | refine u_Table_init ?_ ?_
  | refine u_is_functions ?_ ?_ ?_
  | refine u_is_functions_ty ?_ ?_ ?_ ?_
  | refine u_is_bits_ty ?_ ?_ ?_
  | refine u_bits_by_version ?_ ?_ ?_ ?_ ?_
  | refine u_bits_of ?_ ?_ ?_ ?_ ?_
  | refine u_is_parting ?_ ?_ ?_ ?_
  | refine u_is_parting_ty ?_ ?_ ?_ ?_ ?_
  | refine u_parting ?_ ?_ ?_ ?_
  | refine u__law_deep ?_ ?_ ?_
  | refine u__law_odd ?_
  | refine u__law_bits ?_ ?_ ?_ ?_ ?_ ?_)
local macro_rules | `(tactic| walk_at "zs1") => `(tactic| first
  | walk_at "zq"
  | walk_at "zu"
  | walk_at "zb")
local macro_rules | `(tactic| walk_at "zs") => `(tactic| repeat walk_at "zs1")
/-- _law_are_bits -/
def sp__law_are_bits : ASp := fun ds M P => ∃ (x : Th) (n : Int), ds = [dy x, dy n] ∧ (∀ l, x = .tup l → l.length ≤ 1000) ∧ P (dy (isBits n x)) M
theorem sc__law_are_bits : FnScope ["_law_thing", "_law_many", "_law_bit"] ["_law_thing", "_law_many"] (defScope s__law_are_bits) := ⟨rfl, rfl, rfl, by decide +kernel, rfl, by decide +kernel, by decide +kernel⟩
theorem ok__law_are_bits {f : Addr} {fd : FuncData} (F : Fun c.K "_law_are_bits" "_law_are_bits" s__law_are_bits f fd) (T : Tb mg) (X : Tx c) (g__law_is_int : Cal P w c.K mg base 1 "_law_is_int" (spOf c 3 0 sp__law_is_int) []) :
    FnOk P w c.K mg base CX0 2 f fd ["_law_thing", "_law_many"] (spOf c 2 0 sp__law_are_bits) := by
  refine F.ok sc__law_are_bits (fun vs H Q E h => ?_) (fun cdv A outer s H vs Q E hr h => ?_)
  · obtain ⟨as, F, ds, M, P, _, hn, _, rd, _⟩ := h
    rw [rd.length, hn]; rfl
  · have hu1 : (A.deeper (envOfC "_law_are_bits" (defScope s__law_are_bits) s.heap.objs.size f cdv)).units + 1 < cLine := hu_of hr
    have hu8 : (A.deeper (envOfC "_law_are_bits" (defScope s__law_are_bits) s.heap.objs.size f cdv)).units + 8 < cLine := by have := hr.un; omega
    have hu16 : (A.deeper (envOfC "_law_are_bits" (defScope s__law_are_bits) s.heap.objs.size f cdv)).units + 16 < cLine := by have := hr.un; omega
    have hu64 : (A.deeper (envOfC "_law_are_bits" (defScope s__law_are_bits) s.heap.objs.size f cdv)).units + 64 < cLine := by have := hr.un; omega
    have hu65 : (A.deeper (envOfC "_law_are_bits" (defScope s__law_are_bits) s.heap.objs.size f cdv)).units + 65 < cLine := by have := hr.un; omega
    refine ⟨_, (pss_cons (ps_if (PW.pt (pw_or (pt_not (pt_val (pe_callB (r := rIsi c.K) call_isi (by rfl) T.b_isinstance (by decide +kernel) (pa_cons (pv 0) (pa_cons (pe_bltn (v := .ty "tuple") rfl T.b_tuple (by decide +kernel) rfl) pa_nil))))) (pw_or1 (pt_cmpR op_ne (pe_callB (r := Zq.rLen c.K) call_len_seq (by rfl) T.b_len (by decide +kernel) (pa_cons (pv 0) pa_nil)) (pv 1) (nomark _))))) (pss_one (ps_ret pe_bl)) pss_nil)
        (pss_one (ps_ret (pe_callB (r := rAll c.K) (cr_all rfl) (by rfl) T.b_all (by decide +kernel) (pa_cons (pe_lc (own := [("_law_bit", 2)]) (g := (gName 2)) rfl sc__law_are_bits.nd (pi_tup (pv 0)) (blkOk_by (N := ["_law_thing", "_law_many", "_law_bit"]) (sc := defScope s__law_are_bits) (by decide +kernel)) (fun _ _ _ _ _ => (pg_name (i := 2) sc__law_are_bits.nd rfl (Or.inl rfl))) (fun _ _ _ _ _ => pts_nil) (fun _ _ _ _ _ => (pe_c g__law_is_int hr (by decide) rfl (pa_cons (pv 2) (pa_cons pe_int (pa_cons pe_int pa_nil)))))) pa_nil))))), ?_⟩
    refine body_ok h (by decide) fun ds M R hds hM hS => ?_
    obtain ⟨x, n, rfl, hw, hP⟩ := hS
    obtain rfl := List.length_eq_zero_iff.mp hM
    show WS c 0 _ [some (dy x), some (dy n), none] [] _ _
    cases x with
    | tup l =>
      have lw := hw l rfl
      rw [th_tup]
      walk_at "zs"
      by_cases hn : ((l.length : Nat) : Int) = n
      · have e1 : (!decide (((l.length : Nat) : Int) = n)) = false := by rw [decide_eq_true hn]; rfl
        walk_at "zs"
        refine we_lcM (β := Th) (γ := Bool) [2] (isIn 0 1) (fun t ht => ht) (by walk_at "zok") ?_
        refine wi_tup (α := Th) ?_
        walk_at "zs"
        refine ⟨⟨l⟩, rfl, rfl, l, rfl, by omega, fun y hy acc => ?_, ?_⟩
        · walk_at "zs"
          refine ⟨rfl, ?_⟩
          walk_at "zs"
          exact ⟨rfl, rfl⟩
        · walk_at "zs"
          have e2 : ((l.map (isIn 0 1)).all id) = isBits n (.tup l) := by
            show _ = (decide ((l.length : Int) = n) && l.all (below 2))
            rw [decide_eq_true hn, Bool.true_and, List.all_map]
            congr 1
            funext y
            cases y with
            | int i =>
              show (decide (0 ≤ i) && decide (i ≤ 1)) = (decide (0 ≤ i) && decide (i < 2))
              have : decide (i ≤ 1) = decide (i < 2) := decide_eq_decide.mpr (by omega)
              rw [this]
            | _ => rfl
          rw [e2]
          exact hP
      · have e1 : (!decide (((l.length : Nat) : Int) = n)) = true := by rw [decide_eq_false hn]; rfl
        have e2 : isBits n (.tup l) = false := by
          show (decide ((l.length : Int) = n) && l.all (below 2)) = false
          rw [decide_eq_false hn]; rfl
        rw [e2] at hP
        walk_at "zs"
        exact hP
    | _ =>
      walk_at "zs"
      exact hP

theorem u__law_are_bits {M : Mem} {P : Dy → Mem → Prop} {x : Th} {n : Int} (h : P (dy (isBits n x)) M) (h1 : ∀ l, x = .tup l → l.length ≤ 1000) : sp__law_are_bits [dy x, dy n] M P := ⟨x, n, rfl, h1, h⟩
local macro_rules | `(tactic| walk_at "zu") => `(tactic| first
  | refine u_is_integer ?_
  | refine u_is_integer_th ?_
  | refine u_is_number_below ?_ ?_
  | refine u_is_number_below_th ?_
  | refine u_is_bits ?_
  | refine u_is_lot ?_ ?_
  | refine u_is_lot_of_cells ?_ ?_ ?_
  | refine u_is_kind ?_ ?_
  | refine u_is_journal ?_ ?_
  | refine u_check_journal ?_ ?_
  | refine u_fresh ?_ ?_ ?_
  | refine u_last_behind ?_ ?_ ?_
  | refine u_last_versions ?_ ?_ ?_
  | refine u_rows_behind ?_ ?_ ?_
  | refine u_source_rows ?_ ?_ ?_
  | refine u_is_version ?_ ?_ ?_ ?_ ?_
  | refine u_is_plates ?_ ?_ ?_ ?_
  | refine u_check_plates ?_ ?_ ?_ ?_
  | refine u_derived_marks ?_ ?_ ?_ ?_
  | refine u__law_is_int ?_ ?_ ?_
  | refine u__law_is_int_th ?_
  | refine u__law_flag ?_
  | refine u__law_history ?_ ?_ ?_
  | refine u__law_closure ?_ ?_ ?_ ?_
  | refine u__law_lost ?_ ?_ ?_ ?_ ?_
  | refine u__law_with ?_ ?_ ?_
  | refine u__law_draw ?_ ?_ ?_
  | refine u__law_any ?_ ?_ ?_
  | refine u__law_any_th ?_ ?_ ?_
  | refine u__law_kinds ?_ ?_ ?_ ?_ ?_
  | refine u__law_table ?_ ?_ ?_
  | refine u__law_journal ?_ ?_ ?_ ?_ ?_
  | refine u__law_versions ?_ ?_ ?_ ?_ ?_
  | refine u__law_plates ?_ ?_ ?_ ?_ ?_ ?_ ?_ ?_
  | refine u_Table_init ?_ ?_
  | refine u_is_functions ?_ ?_ ?_
  | refine u_is_functions_ty ?_ ?_ ?_ ?_
  | refine u_is_bits_ty ?_ ?_ ?_
  | refine u_bits_by_version ?_ ?_ ?_ ?_ ?_
  | refine u_bits_of ?_ ?_ ?_ ?_ ?_
  | refine u_is_parting ?_ ?_ ?_ ?_
  | refine u_is_parting_ty ?_ ?_ ?_ ?_ ?_
  | refine u_parting ?_ ?_ ?_ ?_
  | refine u__law_deep ?_ ?_ ?_
  | refine u__law_odd ?_
  | refine u__law_bits ?_ ?_ ?_ ?_ ?_ ?_
  | refine u__law_are_bits ?_ ?_)
local macro_rules | `(tactic| walk_at "zs1") => `(tactic| first
  | walk_at "zq"
  | walk_at "zu"
  | walk_at "zb")
local macro_rules | `(tactic| walk_at "zs") => `(tactic| repeat walk_at "zs1")
theorem zip_rows_all : ∀ (l : List Th) (rd : List (Tp Int)), ((l.zip rd).all fun p => isBits (2 ^ p.2.l.length) p.1) = fnsAll (rd.map fun r => r.l.length) l
  | [], rd => by cases rd <;> rfl
  | x :: l, [] => rfl
  | x :: l, r :: rd => by
    rw [List.zip_cons_cons, List.all_cons, zip_rows_all l rd]; rfl
theorem pows {k : Nat} (h : k ≤ 3) : ([1, 2, 4, 8] : List Int)[((k : Nat) : Int).toNat]? = some (2 ^ k) := by
  rw [Int.toNat_natCast]
  match k, h with
  | 0, _ => rfl
  | 1, _ => rfl
  | 2, _ => rfl
  | 3, _ => rfl
theorem form_no {n : Int} {rd : List (Tp Int)} {l : List Th} (h : l.length ≠ 3) : hasForm n rd (.tup l) = false := by
  match l, h with
  | [], _ => rfl
  | [_], _ => rfl
  | [_, _], _ => rfl
  | [f, o, u], h => exact absurd rfl h
  | _ :: _ :: _ :: _ :: _, _ => rfl
def slim (x : Th) : Prop := x.wid 1000
theorem slim3 {f o u : Th} (h : slim (.tup [f, o, u])) : slim f ∧ slim o ∧ slim u := by
  have h2 := (wid_tup.mp h).2
  exact ⟨h2 f (by simp), h2 o (by simp), h2 u (by simp)⟩
theorem slim_l {x : Th} (h : slim x) : ∀ l, x = .tup l → l.length ≤ 1000 := fun l e => by subst e; exact (wid_tup.mp h).1
/-- _law_has_form -/
def sp__law_has_form : ASp := fun ds M P => ∃ (n : Int) (wr : List Int) (rd : List (Tp Int)) (la : List Int) (x : Th), ds = [dy n, dy (T3.mk wr rd la), dy x] ∧ RdOk n rd ∧ slim x ∧ P (dy (hasForm n rd x)) M
theorem sc__law_has_form : FnScope ["_law_cells", "_law_history_here", "_law_thing", "_law_bits_here", "_law_some"] ["_law_cells", "_law_history_here", "_law_thing"] (defScope s__law_has_form) := ⟨rfl, rfl, rfl, by decide +kernel, rfl, by decide +kernel, by decide +kernel⟩
theorem ok__law_has_form {f : Addr} {fd : FuncData} (F : Fun c.K "_law_has_form" "_law_has_form" s__law_has_form f fd) (T : Tb mg) (X : Tx c) (g__law_are_bits : Cal P w c.K mg base 2 "_law_are_bits" (spOf c 2 0 sp__law_are_bits) []) :
    FnOk P w c.K mg base CX0 3 f fd ["_law_cells", "_law_history_here", "_law_thing"] (spOf c 3 0 sp__law_has_form) := by
  refine F.ok sc__law_has_form (fun vs H Q E h => ?_) (fun cdv A outer s H vs Q E hr h => ?_)
  · obtain ⟨as, F, ds, M, P, _, hn, _, rd, _⟩ := h
    rw [rd.length, hn]; rfl
  · have hu1 : (A.deeper (envOfC "_law_has_form" (defScope s__law_has_form) s.heap.objs.size f cdv)).units + 1 < cLine := hu_of hr
    have hu8 : (A.deeper (envOfC "_law_has_form" (defScope s__law_has_form) s.heap.objs.size f cdv)).units + 8 < cLine := by have := hr.un; omega
    have hu16 : (A.deeper (envOfC "_law_has_form" (defScope s__law_has_form) s.heap.objs.size f cdv)).units + 16 < cLine := by have := hr.un; omega
    have hu64 : (A.deeper (envOfC "_law_has_form" (defScope s__law_has_form) s.heap.objs.size f cdv)).units + 64 < cLine := by have := hr.un; omega
    have hu65 : (A.deeper (envOfC "_law_has_form" (defScope s__law_has_form) s.heap.objs.size f cdv)).units + 65 < cLine := by have := hr.un; omega
    refine ⟨_, (pss_cons (ps_if (PW.pt (pw_or (pt_not (pt_val (pe_callB (r := rIsi c.K) call_isi (by rfl) T.b_isinstance (by decide +kernel) (pa_cons (pv 2) (pa_cons (pe_bltn (v := .ty "tuple") rfl T.b_tuple (by decide +kernel) rfl) pa_nil))))) (pw_or (pt_cmpR op_ne (pe_callB (r := Zq.rLen c.K) call_len_seq (by rfl) T.b_len (by decide +kernel) (pa_cons (pv 2) pa_nil)) pe_int (nomark _)) (pw_or1 (pt_not (pt_val (pe_callB (r := rIsi c.K) call_isi (by rfl) T.b_isinstance (by decide +kernel) (pa_cons (pe_ix (r := rIxT c.K) ix_tup (pv 2) pe_int (fun _ _ => rfl)) (pa_cons (pe_bltn (v := .ty "tuple") rfl T.b_tuple (by decide +kernel) rfl) pa_nil))))))))) (pss_one (ps_ret pe_bl)) pss_nil)
        (pss_cons (ps_if (pt_cmpR op_ne (pe_callB (r := Zq.rLen c.K) call_len_seq (by rfl) T.b_len (by decide +kernel) (pa_cons (pe_ix (r := rIxT c.K) ix_tup (pv 2) pe_int (fun _ _ => rfl)) pa_nil)) (pe_callB (r := Zq.rLen c.K) call_len_seq (by rfl) T.b_len (by decide +kernel) (pa_cons (pe_ix (r := rIxT c.K) ix_tup (pv 1) pe_int (fun _ _ => rfl)) pa_nil)) (nomark _)) (pss_one (ps_ret pe_bl)) pss_nil)
        (pss_cons (ps_for PassesOwn.never rfl (Zr.pi_zipX true false rfl T.b_zip (pa_cons (pe_ix (r := rIxT c.K) ix_tup (pv 2) pe_int (fun _ _ => rfl)) (pa_cons (pe_ix (r := rIxT c.K) ix_tup (pv 1) pe_int (fun _ _ => rfl)) pa_nil))) (pg_tup rfl (pgs_cons (pg_name (i := 3) sc__law_has_form.nd rfl (Or.inl rfl)) (pgs_cons (pg_name (i := 4) sc__law_has_form.nd rfl (Or.inl rfl)) pgs_nil))) (pss_one (ps_if (pt_not (pt_val (pe_c g__law_are_bits hr (by decide) rfl (pa_cons (pv 3) (pa_cons (pe_ix (r := rIxL c.K) ix_list (pe_lst (pa_cons pe_int (pa_cons pe_int (pa_cons pe_int (pa_cons pe_int pa_nil))))) (pe_callB (r := Zq.rLen c.K) call_len_seq (by rfl) T.b_len (by decide +kernel) (pa_cons (pv 4) pa_nil)) (fun _ _ => rfl)) pa_nil))))) (pss_one (ps_ret pe_bl)) pss_nil)))
        (pss_one (ps_ret (pe_and (pe_c g__law_are_bits hr (by decide) rfl (pa_cons (pe_ix (r := rIxT c.K) ix_tup (pv 2) pe_int (fun _ _ => rfl)) (pa_cons (pv 0) pa_nil))) (pe_one (pe_c g__law_are_bits hr (by decide) rfl (pa_cons (pe_ix (r := rIxT c.K) ix_tup (pv 2) pe_int (fun _ _ => rfl)) (pa_cons (pv 0) pa_nil)))))))))), ?_⟩
    refine body_ok h (by decide) fun ds M R hds hM hS => ?_
    obtain ⟨n, wr, rd, la, x, rfl, rok, sx, hP⟩ := hS
    obtain rfl := List.length_eq_zero_iff.mp hM
    show WS c 0 _ [some (dy n), some (dy (T3.mk wr rd la)), some (dy x), none, none] [] _ _
    cases x with
    | tup l =>
      rcases three_or l with ⟨f, on, tw, rfl⟩ | h3
      · obtain ⟨s1, s2, s3⟩ := slim3 sx
        rw [th_three]
        walk_at "zs"
        refine rc_len3 ?_
        walk_at "zs"
        cases f with
        | tup fl =>
          have fw := slim_l s1 fl rfl
          have fe := (wid_tup.mp (show (Th.tup fl).wid 1000 from s1)).2
          walk_at "zs"
          rw [th_tup]
          refine rc_lenT ?_
          walk_at "zs"
          by_cases hn : fl.length = rd.length
          · have e1 : (!decide (((fl.length : Nat) : Int) = ((rd.length : Nat) : Int))) = false := by rw [hn]; simp
            have e2 : hasForm n rd (.tup [.tup fl, on, tw]) = (((fl.zip rd).all fun p => isBits (2 ^ p.2.l.length) p.1) && isBits n on && isBits n tw) := by
              show ((decide (fl.length = rd.length) && fnsAll _ fl) && isBits n on && isBits n tw) = _
              rw [zip_rows_all, decide_eq_true hn]; rfl
            rw [e2] at hP
            walk_at "zs"
            refine ws_for (S := Unit) (β := Th × Tp Int) (ts := [3] ++ [4]) (fun pre _ => (pre.all fun p => isBits (2 ^ p.2.l.length) p.1) = true) (fun _ => [some (dy n), some (dy (T3.mk wr rd la)), some (dy (T3.mk (Th.tup fl) on tw)), none, none]) (fun _ => []) ?_
            refine wi_zipTL (α := Th) (β := Tp Int) ?_
            walk_at "zs"
            refine ⟨⟨fl⟩, rd, by rw [th_tup], fl.zip rd, rfl, (), rfl, by walk_at "zcut", fun pre y post s e hJ => ?_, fun s hJ => ?_⟩
            · have hm := List.of_mem_zip (show (y.1, y.2) ∈ fl.zip rd by rw [e]; simp)
              obtain ⟨i, hi⟩ := List.mem_iff_getElem?.mp hm.2
              have r3 := (rok.at_ i _ hi).1
              have sy := slim_l (show slim y.1 from fe _ hm.1)
              walk_at "zs"
              refine we_lst (α := Int) ?_
              walk_at "zs"
              refine ⟨[1, 2, 4, 8], rfl, by simp, ?_⟩
              walk_at "zs"
              refine rr_ixL (xs := [1, 2, 4, 8]) (by omega) (pows r3) ?_
              walk_at "zs"
              · cases hb : isBits (2 ^ y.2.l.length) y.1 with
                | true =>
                  walk_at "zs"
                  exact ⟨(), by rw [List.all_append, hJ]; simp [hb], by walk_at "zcut"⟩
                | false =>
                  have : ((fl.zip rd).all fun p => isBits (2 ^ p.2.l.length) p.1) = false := by rw [e, List.all_append, List.all_cons, hb]; simp
                  rw [this] at hP
                  walk_at "zs"
                  exact hP
              all_goals assumption
            · rw [hJ, Bool.true_and] at hP
              walk_at "zs"
              · refine ⟨fun q => ?_, fun q => ?_⟩
                · rw [q, Bool.true_and] at hP
                  walk_at "zs"
                  · exact hP
                  · exact slim_l s3
                · rw [q] at hP
                  walk_at "zs"
                  exact hP
              · exact slim_l s2
          · have e1 : (!decide (((fl.length : Nat) : Int) = ((rd.length : Nat) : Int))) = true := by rw [decide_eq_false (by omega)]; rfl
            have e2 : hasForm n rd (.tup [.tup fl, on, tw]) = false := by
              show ((decide (fl.length = rd.length) && fnsAll _ fl) && isBits n on && isBits n tw) = false
              rw [decide_eq_false hn]; rfl
            rw [e2] at hP
            walk_at "zs"
            exact hP
        | _ =>
          walk_at "zs"
          exact hP
      · rw [th_tup]
        have e1 : (!decide (((l.length : Nat) : Int) = 3)) = true := by rw [decide_eq_false (by omega)]; rfl
        walk_at "zs"
        rw [form_no h3] at hP
        exact hP
    | _ =>
      walk_at "zs"
      exact hP

theorem u__law_has_form {M : Mem} {P : Dy → Mem → Prop} {n : Int} {wr : List Int} {rd : List (Tp Int)} {la : List Int} {x : Th} (h : P (dy (hasForm n rd x)) M) (h1 : RdOk n rd) (h2 : slim x) : sp__law_has_form [dy n, dy (T3.mk wr rd la), dy x] M P := ⟨n, wr, rd, la, x, rfl, h1, h2, h⟩
local macro_rules | `(tactic| walk_at "zu") => `(tactic| first
  | refine u_is_integer ?_
  | refine u_is_integer_th ?_
  | refine u_is_number_below ?_ ?_
  | refine u_is_number_below_th ?_
  | refine u_is_bits ?_
  | refine u_is_lot ?_ ?_
  | refine u_is_lot_of_cells ?_ ?_ ?_
  | refine u_is_kind ?_ ?_
  | refine u_is_journal ?_ ?_
  | refine u_check_journal ?_ ?_
  | refine u_fresh ?_ ?_ ?_
  | refine u_last_behind ?_ ?_ ?_
  | refine u_last_versions ?_ ?_ ?_
  | refine u_rows_behind ?_ ?_ ?_
  | refine u_source_rows ?_ ?_ ?_
  | refine u_is_version ?_ ?_ ?_ ?_ ?_
  | refine u_is_plates ?_ ?_ ?_ ?_
  | refine u_check_plates ?_ ?_ ?_ ?_
  | refine u_derived_marks ?_ ?_ ?_ ?_
  | refine u__law_is_int ?_ ?_ ?_
  | refine u__law_is_int_th ?_
  | refine u__law_flag ?_
  | refine u__law_history ?_ ?_ ?_
  | refine u__law_closure ?_ ?_ ?_ ?_
  | refine u__law_lost ?_ ?_ ?_ ?_ ?_
  | refine u__law_with ?_ ?_ ?_
  | refine u__law_draw ?_ ?_ ?_
  | refine u__law_any ?_ ?_ ?_
  | refine u__law_any_th ?_ ?_ ?_
  | refine u__law_kinds ?_ ?_ ?_ ?_ ?_
  | refine u__law_table ?_ ?_ ?_
  | refine u__law_journal ?_ ?_ ?_ ?_ ?_
  | refine u__law_versions ?_ ?_ ?_ ?_ ?_
  | refine u__law_plates ?_ ?_ ?_ ?_ ?_ ?_ ?_ ?_
  | refine u_Table_init ?_ ?_
  | refine u_is_functions ?_ ?_ ?_
  | refine u_is_functions_ty ?_ ?_ ?_ ?_
  | refine u_is_bits_ty ?_ ?_ ?_
  | refine u_bits_by_version ?_ ?_ ?_ ?_ ?_
  | refine u_bits_of ?_ ?_ ?_ ?_ ?_
  | refine u_is_parting ?_ ?_ ?_ ?_
  | refine u_is_parting_ty ?_ ?_ ?_ ?_ ?_
  | refine u_parting ?_ ?_ ?_ ?_
  | refine u__law_deep ?_ ?_ ?_
  | refine u__law_odd ?_
  | refine u__law_bits ?_ ?_ ?_ ?_ ?_ ?_
  | refine u__law_are_bits ?_ ?_
  | refine u__law_has_form ?_ ?_ ?_)
local macro_rules | `(tactic| walk_at "zs1") => `(tactic| first
  | walk_at "zq"
  | walk_at "zu"
  | walk_at "zb")
local macro_rules | `(tactic| walk_at "zs") => `(tactic| repeat walk_at "zs1")
theorem part_form {n : Int} {rd : List (Tp Int)} {la ps : List Int} {x : Th} (h : hasForm n rd x = false) : isPart n rd la ps x = false := by
  cases x with
  | tup l =>
    rcases three_or l with ⟨f, o, u, rfl⟩ | h3
    · show (hasForm n rd (.tup [f, o, u]) && _) = false
      rw [h]; rfl
    · exact part_no h3
  | _ => rfl
theorem form_in {n : Int} {rd : List (Tp Int)} {x : Th} (h : hasForm n rd x = true) : ∃ f o u, x = .tup [f, o, u] ∧ isFns rd f = true ∧ isBits n o = true ∧ isBits n u = true := by
  cases x with
  | tup l =>
    rcases three_or l with ⟨f, o, u, rfl⟩ | h3
    · have h' : ((isFns rd f && isBits n o) && isBits n u) = true := h
      rw [Bool.and_eq_true, Bool.and_eq_true] at h'
      exact ⟨f, o, u, rfl, h'.1.1, h'.1.2, h'.2⟩
    · rw [form_no h3] at h; cases h
  | _ => cases h
/-- _law_parts -/
def sp__law_parts : ASp := fun ds M P => ∃ (n : Int) (wr : List Int) (rd : List (Tp Int)) (la ps : List Int) (x : Th), ds = [dy n, dy (T3.mk wr rd la), dy (Tp.mk ps), dy x] ∧ RdOk n rd ∧ n ≤ 8 ∧ rd.length ≤ 400 ∧ la.length ≤ 8 ∧ ps.length ≤ 8 ∧ (∀ v, v ∈ ps → -n ≤ v ∧ v < (rd.length : Int)) ∧ (∀ v, v ∈ la → -n ≤ v ∧ v < (rd.length : Int)) ∧ slim x ∧ P (dy (isPart n rd la ps x)) M
theorem sc__law_parts : FnScope ["_law_cells", "_law_history_here", "_law_plates_here", "_law_thing", "_law_one", "_law_two", "_law_version"] ["_law_cells", "_law_history_here", "_law_plates_here", "_law_thing"] (defScope s__law_parts) := ⟨rfl, rfl, rfl, by decide +kernel, rfl, by decide +kernel, by decide +kernel⟩
theorem ok__law_parts {f : Addr} {fd : FuncData} (F : Fun c.K "_law_parts" "_law_parts" s__law_parts f fd) (T : Tb mg) (X : Tx c) (g__law_has_form : Cal P w c.K mg base 3 "_law_has_form" (spOf c 3 0 sp__law_has_form) []) (g__law_bits : Cal P w c.K mg base 1 "_law_bits" (spOf c 3 0 sp__law_bits) []) :
    FnOk P w c.K mg base CX0 4 f fd ["_law_cells", "_law_history_here", "_law_plates_here", "_law_thing"] (spOf c 4 0 sp__law_parts) := by
  refine F.ok sc__law_parts (fun vs H Q E h => ?_) (fun cdv A outer s H vs Q E hr h => ?_)
  · obtain ⟨as, F, ds, M, P, _, hn, _, rd, _⟩ := h
    rw [rd.length, hn]; rfl
  · have hu1 : (A.deeper (envOfC "_law_parts" (defScope s__law_parts) s.heap.objs.size f cdv)).units + 1 < cLine := hu_of hr
    have hu8 : (A.deeper (envOfC "_law_parts" (defScope s__law_parts) s.heap.objs.size f cdv)).units + 8 < cLine := by have := hr.un; omega
    have hu16 : (A.deeper (envOfC "_law_parts" (defScope s__law_parts) s.heap.objs.size f cdv)).units + 16 < cLine := by have := hr.un; omega
    have hu64 : (A.deeper (envOfC "_law_parts" (defScope s__law_parts) s.heap.objs.size f cdv)).units + 64 < cLine := by have := hr.un; omega
    have hu65 : (A.deeper (envOfC "_law_parts" (defScope s__law_parts) s.heap.objs.size f cdv)).units + 65 < cLine := by have := hr.un; omega
    refine ⟨_, (pss_cons (ps_if (pt_not (pt_val (pe_c g__law_has_form hr (by decide) rfl (pa_cons (pv 0) (pa_cons (pv 1) (pa_cons (pv 3) pa_nil)))))) (pss_one (ps_ret pe_bl)) pss_nil)
        (pss_cons (ps_asg (pe_tup (pa_cons (pe_c g__law_bits hr (by decide) rfl (pa_cons (pv 1) (pa_cons (pe_ix (r := rIxT c.K) ix_tup (pv 3) pe_int (fun _ _ => rfl)) (pa_cons (pe_ix (r := rIxT c.K) ix_tup (pv 3) pe_int (fun _ _ => rfl)) pa_nil)))) (pa_cons (pe_c g__law_bits hr (by decide) rfl (pa_cons (pv 1) (pa_cons (pe_ix (r := rIxT c.K) ix_tup (pv 3) pe_int (fun _ _ => rfl)) (pa_cons (pe_ix (r := rIxT c.K) ix_tup (pv 3) pe_int (fun _ _ => rfl)) pa_nil)))) pa_nil))) (pg_tup rfl (pgs_cons (pg_name (i := 4) sc__law_parts.nd rfl (Or.inr rfl)) (pgs_cons (pg_name (i := 5) sc__law_parts.nd rfl (Or.inr rfl)) pgs_nil))))
        (pss_cons (ps_if (pt_not (pt_val (pe_callB (r := rAll c.K) (cr_all rfl) (by rfl) T.b_all (by decide +kernel) (pa_cons (pe_lc (own := [("_law_version", 6)]) (g := (gName 6)) rfl sc__law_parts.nd (pi_tup (pv 2)) (blkOk_by (N := ["_law_cells", "_law_history_here", "_law_plates_here", "_law_thing", "_law_one", "_law_two", "_law_version"]) (sc := defScope s__law_parts) (by decide +kernel)) (fun _ _ _ _ _ => (pg_name (i := 6) sc__law_parts.nd rfl (Or.inl rfl))) (fun _ _ _ _ _ => pts_nil) (fun _ _ _ _ _ => (pe_cmpR op_eq (pe_dget hu1 (pv 4) (pv 6) (fun _ _ => rfl)) (pe_dget hu1 (pv 5) (pv 6) (fun _ _ => rfl)) (nomark _)))) pa_nil)))) (pss_one (ps_ret pe_bl)) pss_nil)
        (pss_one (ps_ret (pe_callB (r := rAny c.K) (cr_any rfl) (by rfl) T.b_any (by decide +kernel) (pa_cons (pe_lc (own := [("_law_version", 6)]) (g := (gName 6)) rfl sc__law_parts.nd (pi_list (pe_ix (r := rIxT c.K) ix_tup (pv 1) pe_int (fun _ _ => rfl))) (blkOk_by (N := ["_law_cells", "_law_history_here", "_law_plates_here", "_law_thing", "_law_one", "_law_two", "_law_version"]) (sc := defScope s__law_parts) (by decide +kernel)) (fun _ _ _ _ _ => (pg_name (i := 6) sc__law_parts.nd rfl (Or.inl rfl))) (fun _ _ _ _ _ => pts_nil) (fun _ _ _ _ _ => (pe_cmpR op_ne (pe_dget hu1 (pv 4) (pv 6) (fun _ _ => rfl)) (pe_dget hu1 (pv 5) (pv 6) (fun _ _ => rfl)) (nomark _)))) pa_nil))))))), ?_⟩
    refine body_ok h (by decide) fun ds M R hds hM hS => ?_
    obtain ⟨n, wr, rd, la, ps, x, rfl, rok, n8, rl, ll, pl, pw, lo, sx, hP⟩ := hS
    obtain rfl := List.length_eq_zero_iff.mp hM
    show WS c 0 _ [some (dy n), some (dy (T3.mk wr rd la)), some (dy (Tp.mk ps)), some (dy x), none, none, none] [] _ _
    cases b0 : hasForm n rd x with
    | false =>
      rw [part_form b0] at hP
      walk_at "zs"
      · rw [b0]
        walk_at "zs"
        exact hP
      all_goals assumption
    | true =>
      obtain ⟨f, on, tw, rfl, b1, b2, b3⟩ := form_in b0
      have q1 := fns_in b1
      have q2 := bits_in b2
      have q3 := bits_in b3
      have e1 : dy f = dy (Tp.mk (thFs f)) := (congrArg dy q1.1).trans (IsTh.eq _)
      have e2 : dy on = dy (Tp.mk (thIs on)) := (congrArg dy q2.1).trans (IsTh.eq _)
      have e3 : dy tw = dy (Tp.mk (thIs tw)) := (congrArg dy q3.1).trans (IsTh.eq _)
      have hP' : R (dy (parts rd la ps (thFs f) (thIs on) (thIs tw))) [] := by
        have e : isPart n rd la ps (.tup [f, on, tw]) = parts rd la ps (thFs f) (thIs on) (thIs tw) := by
          show (((isFns _ f && isBits _ on) && isBits _ tw) && _) = _
          rw [b1, b2, b3]; rfl
        rw [← e]; exact hP
      have d1 := dok rok q1.2 q2.2.1
      have d2 := dok rok q1.2 q3.2.1
      unfold parts at hP'
      walk_at "zs"
      · rw [b0]
        walk_at "zs"
        rw [th_three]
        walk_at "zs"
        rw [e1, e2]
        refine u__law_bits (n := n) ?_ rok n8 rl q1.2 q2.2.1
        walk_at "zs"
        · rw [e1, e3]
          refine u__law_bits (n := n) ?_ rok n8 rl q1.2 q3.2.1
          walk_at "zs"
          · refine we_lcM (β := Int) (γ := Bool) [6] (fun v => decide (bit (bitsD rd (thFs f) (thIs on)) v = bit (bitsD rd (thFs f) (thIs tw)) v)) (fun t ht => ht) (by walk_at "zok") ?_
            refine wi_tup (α := Int) ?_
            walk_at "zs"
            refine ⟨⟨ps⟩, rfl, rfl, ps, rfl, by omega, fun y hy acc => ?_, ?_⟩
            · walk_at "zs"
              refine ⟨rfl, ?_⟩
              walk_at "zs"
              refine we_dgetF (β := Int) ?_
              walk_at "zs"
              refine ⟨_, d1.get (pw y hy).1 (pw y hy).2, ?_⟩
              refine we_dgetF (β := Int) ?_
              walk_at "zs"
              refine ⟨_, d2.get (pw y hy).1 (pw y hy).2, ?_⟩
              walk_at "zs"
              exact ⟨rfl, rfl⟩
            walk_at "zs"
            rw [List.all_map]
            cases b4 : (ps.all fun v => decide (bit (bitsD rd (thFs f) (thIs on)) v = bit (bitsD rd (thFs f) (thIs tw)) v)) with
            | false =>
              rw [b4] at hP'
              have b5 : (ps.all (id ∘ fun v => decide (bit (bitsD rd (thFs f) (thIs on)) v = bit (bitsD rd (thFs f) (thIs tw)) v))) = false := b4
              rw [b5]
              walk_at "zs"
              exact hP'
            | true =>
              rw [b4, Bool.true_and] at hP'
              have b5 : (ps.all (id ∘ fun v => decide (bit (bitsD rd (thFs f) (thIs on)) v = bit (bitsD rd (thFs f) (thIs tw)) v))) = true := b4
              rw [b5]
              walk_at "zs"
              refine we_lcM (β := Int) (γ := Bool) [6] (fun v => !decide (bit (bitsD rd (thFs f) (thIs on)) v = bit (bitsD rd (thFs f) (thIs tw)) v)) (fun t ht => ht) (by walk_at "zok") ?_
              refine wi_list (α := Int) ?_
              walk_at "zs"
              refine ⟨la, rfl, rfl, la, rfl, by omega, fun y hy acc => ?_, ?_⟩
              · walk_at "zs"
                refine ⟨rfl, ?_⟩
                walk_at "zs"
                refine we_dgetF (β := Int) ?_
                walk_at "zs"
                refine ⟨_, d1.get (lo y hy).1 (lo y hy).2, ?_⟩
                refine we_dgetF (β := Int) ?_
                walk_at "zs"
                refine ⟨_, d2.get (lo y hy).1 (lo y hy).2, ?_⟩
                walk_at "zs"
                exact ⟨rfl, rfl⟩
              walk_at "zs"
              rw [List.any_map]
              exact hP'
      all_goals first | exact rok | exact sx | assumption

theorem u__law_parts {M : Mem} {P : Dy → Mem → Prop} {n : Int} {wr : List Int} {rd : List (Tp Int)} {la ps : List Int} {x : Th} (h : P (dy (isPart n rd la ps x)) M) (h1 : RdOk n rd) (h2 : n ≤ 8) (h3 : rd.length ≤ 400) (h4 : la.length ≤ 8) (h5 : ps.length ≤ 8) (h6 : ∀ v, v ∈ ps → -n ≤ v ∧ v < (rd.length : Int)) (h7 : ∀ v, v ∈ la → -n ≤ v ∧ v < (rd.length : Int)) (h8 : slim x) : sp__law_parts [dy n, dy (T3.mk wr rd la), dy (Tp.mk ps), dy x] M P := ⟨n, wr, rd, la, ps, x, rfl, h1, h2, h3, h4, h5, h6, h7, h8, h⟩
local macro_rules | `(tactic| walk_at "zu") => `(tactic| first
  | refine u_is_integer ?_
  | refine u_is_integer_th ?_
  | refine u_is_number_below ?_ ?_
  | refine u_is_number_below_th ?_
  | refine u_is_bits ?_
  | refine u_is_lot ?_ ?_
  | refine u_is_lot_of_cells ?_ ?_ ?_
  | refine u_is_kind ?_ ?_
  | refine u_is_journal ?_ ?_
  | refine u_check_journal ?_ ?_
  | refine u_fresh ?_ ?_ ?_
  | refine u_last_behind ?_ ?_ ?_
  | refine u_last_versions ?_ ?_ ?_
  | refine u_rows_behind ?_ ?_ ?_
  | refine u_source_rows ?_ ?_ ?_
  | refine u_is_version ?_ ?_ ?_ ?_ ?_
  | refine u_is_plates ?_ ?_ ?_ ?_
  | refine u_check_plates ?_ ?_ ?_ ?_
  | refine u_derived_marks ?_ ?_ ?_ ?_
  | refine u__law_is_int ?_ ?_ ?_
  | refine u__law_is_int_th ?_
  | refine u__law_flag ?_
  | refine u__law_history ?_ ?_ ?_
  | refine u__law_closure ?_ ?_ ?_ ?_
  | refine u__law_lost ?_ ?_ ?_ ?_ ?_
  | refine u__law_with ?_ ?_ ?_
  | refine u__law_draw ?_ ?_ ?_
  | refine u__law_any ?_ ?_ ?_
  | refine u__law_any_th ?_ ?_ ?_
  | refine u__law_kinds ?_ ?_ ?_ ?_ ?_
  | refine u__law_table ?_ ?_ ?_
  | refine u__law_journal ?_ ?_ ?_ ?_ ?_
  | refine u__law_versions ?_ ?_ ?_ ?_ ?_
  | refine u__law_plates ?_ ?_ ?_ ?_ ?_ ?_ ?_ ?_
  | refine u_Table_init ?_ ?_
  | refine u_is_functions ?_ ?_ ?_
  | refine u_is_functions_ty ?_ ?_ ?_ ?_
  | refine u_is_bits_ty ?_ ?_ ?_
  | refine u_bits_by_version ?_ ?_ ?_ ?_ ?_
  | refine u_bits_of ?_ ?_ ?_ ?_ ?_
  | refine u_is_parting ?_ ?_ ?_ ?_
  | refine u_is_parting_ty ?_ ?_ ?_ ?_ ?_
  | refine u_parting ?_ ?_ ?_ ?_
  | refine u__law_deep ?_ ?_ ?_
  | refine u__law_odd ?_
  | refine u__law_bits ?_ ?_ ?_ ?_ ?_ ?_
  | refine u__law_are_bits ?_ ?_
  | refine u__law_has_form ?_ ?_ ?_
  | refine u__law_parts ?_ ?_ ?_ ?_ ?_ ?_ ?_ ?_ ?_)
local macro_rules | `(tactic| walk_at "zs1") => `(tactic| first
  | walk_at "zq"
  | walk_at "zu"
  | walk_at "zb")
local macro_rules | `(tactic| walk_at "zs") => `(tactic| repeat walk_at "zs1")
end
end K03
end
section
set_option Elab.async false
set_option linter.all false
set_option maxRecDepth 100000
set_option maxHeartbeats 4000000
namespace K03
open PySem PySem.Spec PyProof.Rows L2 Zq K02
open C8 (Cal Mak pe_c pe_mk pe_gc)
local macro_rules | `(tactic| walk_at "zq") => `(tactic| first
  | with_reducible refine ws_seq ?_
  | with_reducible refine ws_asg ?_
  | (with_reducible apply ws_asgG)
  | with_reducible refine ws_next ?_
  | with_reducible refine ws_ret ?_
  | with_reducible refine ws_if ?_
  | with_reducible refine ws_drop (te := tCall _ _ _ _) ?_
  | with_reducible refine as_dy ?_
  | ((with_reducible apply we_var); focus rfl)
  | with_reducible refine we_int ?_
  | with_reducible refine we_bl ?_
  | with_reducible refine we_non ?_
  | with_reducible refine we_ty ?_
  | with_reducible refine we_str ?_
  | with_reducible refine we_op2 ?_
  | with_reducible refine we_neg ?_
  | with_reducible refine we_andV ?_
  | with_reducible refine we_orV ?_
  | with_reducible refine we_notV ?_
  | with_reducible refine we_chain ?_
  | with_reducible refine we_if ?_
  | with_reducible refine we_cb ?_
  | with_reducible refine tup_pair ?_
  | with_reducible refine tup_three ?_
  | with_reducible refine tup_nil ?_
  | with_reducible refine we_call ?_
  | with_reducible refine we_callD ?_
  | with_reducible refine we_tup ?_
  | refine we_cells (Tx.cl (by assumption)) (Tx.nc (by assumption)) ?_
  | refine we_kinds (Tx.cl (by assumption)) (Tx.nk (by assumption)) ?_
  | with_reducible refine wt_test ?_
  | with_reducible refine wt_B ?_
  | with_reducible refine wt_not ?_
  | with_reducible refine wt_and ?_
  | with_reducible refine wt_or ?_
  | with_reducible refine wt_yes ?_
  | with_reducible refine wa_cons ?_
  | with_reducible refine wa_nil ?_
  | with_reducible refine rr_II ?_
  | with_reducible refine rr_isTrue ?_
  | with_reducible refine rr_notTrue ?_
  | with_reducible refine rr_isN0 ?_
  | with_reducible refine rr_notN0 ?_
  | with_reducible refine rr_isN ?_
  | with_reducible refine rr_notN ?_
  | with_reducible refine rr_IB ?_
  | with_reducible refine rr_eqI ?_
  | with_reducible refine rr_neI ?_
  | with_reducible refine rr_eqB ?_
  | with_reducible refine rr_ixP0 ?_
  | with_reducible refine rr_ixP1 ?_
  | with_reducible refine rr_ix30 ?_
  | with_reducible refine rr_ix31 ?_
  | with_reducible refine rr_ix32 ?_
  | with_reducible refine rr_leK ?_
  | refine rr_eqD ?_
  | refine rr_neD ?_
  | with_reducible refine rr_inT ?_
  | with_reducible refine rr_ninT ?_
  | with_reducible refine rr_inL ?_
  | with_reducible refine rr_ninL ?_
  | with_reducible refine rc_isi kit_ii ?_
  | with_reducible refine rc_isi kit_ib ?_
  | with_reducible refine rc_isi kit_bb ?_
  | with_reducible refine rc_isi kit_tt ?_
  | refine rc_isInt (Tx.isi (by assumption)) ?_
  | refine rc_isBl (Tx.isi (by assumption)) ?_
  | refine rc_isTup (Tx.isi (by assumption)) ?_
  | refine rc_isStr (Tx.isi (by assumption)) ?_
  | with_reducible refine rc_lenL ?_
  | with_reducible refine rc_lenT ?_
  | with_reducible refine rc_lenP ?_
  | with_reducible refine rc_tupL ?_
  | refine rc_lenM rfl ?_
  | refine rc_tupM rfl ?_
  | ((with_reducible apply rr_inM); focus rfl)
  | ((with_reducible apply rr_ninM); focus rfl)
  | with_reducible apply wg_setM
  | refine ex_l rfl ?_
  | refine ex_d rfl ?_
  | with_reducible refine rc_int ?_
  | with_reducible refine rc_abs ?_
  | with_reducible refine rc_min2 ?_
  | with_reducible refine rc_all ?_
  | with_reducible refine rc_any ?_
  | with_reducible refine wg_name ?_
  | (apply wg_tup2)
  | (apply wg_tup3))
local macro_rules | `(tactic| walk_at "zqs") => `(tactic| repeat walk_at "zq")
local macro_rules | `(tactic| walk_at "zok1") => `(tactic| first
  | exact trivial
  | exact dy_ok _ _
  | exact cLst_ok _ _
  | exact cDic_ok _ _
  | exact hand_ok _
  | exact handX_ok
  | exact okM_nil
  | exact okE_nil
  | exact okDs_nil
  | refine okM_cons ?_ ?_
  | refine okDs_cons ?_ ?_
  | refine okE_none ?_
  | refine okE_cons ?_ ?_
  | exact mr_ok (Nat.le_of_ble_eq_true rfl)
  | exact Free.l _ _
  | exact Free.k _ _
  | exact Free.ok _ _
  | exact Frg.refl _
  | exact Frg.nil
  | refine Frg.same ?_
  | refine Frg.drop ?_)
local macro_rules | `(tactic| walk_at "zok") => `(tactic| repeat walk_at "zok1")
local macro_rules | `(tactic| walk_at "zcut") => `(tactic| exact Cut.mk (by walk_at "zok") (by walk_at "zok") (by walk_at "zok") rfl)
local macro_rules | `(tactic| walk_at "zb") => `(tactic| first
  | with_reducible refine bt_tt ?_
  | with_reducible refine bt_ff ?_
  | with_reducible refine bt_nt ?_
  | with_reducible refine bt_nf ?_
  | with_reducible refine bt_ft ?_
  | with_reducible refine bt_tf ?_
  | with_reducible refine bt_nt' ?_
  | with_reducible refine bt_nf' ?_
  | (with_reducible refine bt_t ?_ ?_
     focus (first | rfl | assumption))
  | (with_reducible refine bt_f ?_ ?_
     focus (first | rfl | assumption))
  | (with_reducible refine bt_t' ?_ ?_
     focus (first | rfl | assumption))
  | (with_reducible refine bt_f' ?_ ?_
     focus (first | rfl | assumption))
  | (refine ca5 ?_ ?_ ?_ ?_ ?_
     focus (first | rfl | decide)
     focus (first | exact Nat.zero_le _ | exact Nat.le_of_ble_eq_true rfl)
     focus (walk_at "zok"; done)
     focus (walk_at "zok"; done))
  | (refine ca3 ?_ ?_ ?_
     focus (walk_at "zok"; done)
     focus (walk_at "zok"; done)))

local macro_rules | `(tactic| walk_at "zu") => `(tactic| first
  | refine u_is_integer ?_
  | refine u_is_integer_th ?_
  | refine u_is_number_below ?_ ?_
  | refine u_is_number_below_th ?_
  | refine u_is_bits ?_
  | refine u_is_lot ?_ ?_
  | refine u_is_lot_of_cells ?_ ?_ ?_
  | refine u_is_kind ?_ ?_
  | refine u_is_journal ?_ ?_
  | refine u_check_journal ?_ ?_
  | refine u_fresh ?_ ?_ ?_
  | refine u_last_behind ?_ ?_ ?_
  | refine u_last_versions ?_ ?_ ?_
  | refine u_rows_behind ?_ ?_ ?_
  | refine u_source_rows ?_ ?_ ?_
  | refine u_is_version ?_ ?_ ?_ ?_ ?_
  | refine u_is_plates ?_ ?_ ?_ ?_
  | refine u_check_plates ?_ ?_ ?_ ?_
  | refine u_derived_marks ?_ ?_ ?_ ?_
  | refine u__law_is_int ?_ ?_ ?_
  | refine u__law_is_int_th ?_
  | refine u__law_flag ?_
  | refine u__law_history ?_ ?_ ?_
  | refine u__law_closure ?_ ?_ ?_ ?_
  | refine u__law_lost ?_ ?_ ?_ ?_ ?_
  | refine u__law_with ?_ ?_ ?_
  | refine u__law_draw ?_ ?_ ?_
  | refine u__law_any ?_ ?_ ?_
  | refine u__law_any_th ?_ ?_ ?_
  | refine u__law_kinds ?_ ?_ ?_ ?_ ?_
  | refine u__law_table ?_ ?_ ?_
  | refine u__law_journal ?_ ?_ ?_ ?_ ?_
  | refine u__law_versions ?_ ?_ ?_ ?_ ?_
  | refine u__law_plates ?_ ?_ ?_ ?_ ?_ ?_ ?_ ?_
  | refine u_Table_init ?_ ?_
  | refine u_is_functions ?_ ?_ ?_
  | refine u_is_functions_ty ?_ ?_ ?_ ?_
  | refine u_is_bits_ty ?_ ?_ ?_
  | refine u_bits_by_version ?_ ?_ ?_ ?_ ?_
  | refine u_bits_of ?_ ?_ ?_ ?_ ?_
  | refine u_is_parting ?_ ?_ ?_ ?_
  | refine u_is_parting_ty ?_ ?_ ?_ ?_ ?_
  | refine u_parting ?_ ?_ ?_ ?_
  | refine u__law_deep ?_ ?_ ?_
  | refine u__law_odd ?_
  | refine u__law_bits ?_ ?_ ?_ ?_ ?_ ?_
  | refine u__law_are_bits ?_ ?_
  | refine u__law_has_form ?_ ?_ ?_
  | refine u__law_parts ?_ ?_ ?_ ?_ ?_ ?_ ?_ ?_ ?_)
local macro_rules | `(tactic| walk_at "zs1") => `(tactic| first
  | walk_at "zq"
  | walk_at "zu"
  | walk_at "zb")
local macro_rules | `(tactic| walk_at "zs") => `(tactic| repeat walk_at "zs1")
section
variable {P : Program} {w : World} {c : Cc} {mg : Str → Option Value} {base : Heap}
theorem fnsOk_snoc {pre : List (Tp Int)} {s : List Fn} {row : Tp Int} {f : Fn} (h : FnsOk pre s) (hl : f.l.length = 2 ^ row.l.length) (hb : ∀ x, x ∈ f.l → isB x) : FnsOk (pre ++ [row]) (s ++ [f]) := by
  refine ⟨by rw [List.length_append, List.length_append, h.len]; rfl, fun i r hr => ?_⟩
  by_cases hi : i < pre.length
  · rw [List.getElem?_append_left hi] at hr
    obtain ⟨g, g1, g2⟩ := h.at_ i r hr
    exact ⟨g, by rw [List.getElem?_append_left (by rw [h.len]; exact hi)]; exact g1, g2⟩
  · rw [List.getElem?_append_right (by omega)] at hr
    have h0 : i - pre.length = 0 := by
      have := (List.getElem?_eq_some_iff.mp hr).1
      simp at this; omega
    rw [h0] at hr
    have e : row = r := by simpa using hr
    subst e
    refine ⟨f, by rw [List.getElem?_append_right (by rw [h.len]; omega), h.len, h0]; rfl, hl, hb⟩
theorem beg_put {n : Int} {b : List Int} (h : BegOk n b) {i : Int} (h0 : 0 ≤ i) (h1 : i < n) {x : Int} (hx : isB x) : BegOk n ((b.take i.toNat ++ [x]) ++ b.drop (i + 1).toNat) := by
  have hl := h.len
  refine ⟨?_, fun y hy => ?_⟩
  · rw [List.length_append, List.length_append, List.length_take, List.length_drop]
    simp only [List.length_cons, List.length_nil]
    omega
  · rcases List.mem_append.mp hy with z | z
    · rcases List.mem_append.mp z with w | w
      · exact h.at_ y (List.mem_of_mem_take w)
      · have : y = x := by simpa using w
        rw [this]; exact hx
    · exact h.at_ y (List.mem_of_mem_drop z)
theorem pows4 {k : Nat} (h : k ≤ 3) : ([1, 2, 4, 8] : List Int)[((k : Nat) : Int).toNat]? = some (((2 ^ k : Nat) : Int)) := by
  rw [Int.toNat_natCast]
  match k, h with
  | 0, _ => rfl
  | 1, _ => rfl
  | 2, _ => rfl
  | 3, _ => rfl
/-- _law_drawn -/
def sp__law_drawn : ASp := fun ds M P => ∃ (n : Int) (wr : List Int) (rd : List (Tp Int)) (la : List Int), ds = [dy (MR.mk 0), dy n, dy (T3.mk wr rd la)] ∧ M = [cHand] ∧ 1 ≤ n ∧ n ≤ 8 ∧ RdOk n rd ∧ rd.length ≤ 400 ∧ ∀ w : World3, WOk n rd w → P (dy w) [cHand]
theorem sc__law_drawn : FnScope ["_law_hand_here", "_law_cells", "_law_history_here", "_law_functions", "_law_some", "_law_one", "_law_cell", "_law_turn"] ["_law_hand_here", "_law_cells", "_law_history_here"] (defScope s__law_drawn) := ⟨rfl, rfl, rfl, by decide +kernel, rfl, by decide +kernel, by decide +kernel⟩
theorem ok__law_drawn {f : Addr} {fd : FuncData} (F : Fun c.K "_law_drawn" "_law_drawn" s__law_drawn f fd) (T : Tb mg) (X : Tx c) (g__law_draw : Cal P w c.K mg base 1 "_law_draw" (spOf c 2 1 sp__law_draw) []) :
    FnOk P w c.K mg base CX0 2 f fd ["_law_hand_here", "_law_cells", "_law_history_here"] (spOf c 3 1 sp__law_drawn) := by
  refine F.ok sc__law_drawn (fun vs H Q E h => ?_) (fun cdv A outer s H vs Q E hr h => ?_)
  · obtain ⟨as, F, ds, M, P, _, hn, _, rd, _⟩ := h
    rw [rd.length, hn]; rfl
  · have hu1 : (A.deeper (envOfC "_law_drawn" (defScope s__law_drawn) s.heap.objs.size f cdv)).units + 1 < cLine := hu_of hr
    have hu8 : (A.deeper (envOfC "_law_drawn" (defScope s__law_drawn) s.heap.objs.size f cdv)).units + 8 < cLine := by have := hr.un; omega
    have hu16 : (A.deeper (envOfC "_law_drawn" (defScope s__law_drawn) s.heap.objs.size f cdv)).units + 16 < cLine := by have := hr.un; omega
    have hu64 : (A.deeper (envOfC "_law_drawn" (defScope s__law_drawn) s.heap.objs.size f cdv)).units + 64 < cLine := by have := hr.un; omega
    have hu65 : (A.deeper (envOfC "_law_drawn" (defScope s__law_drawn) s.heap.objs.size f cdv)).units + 65 < cLine := by have := hr.un; omega
    refine ⟨_, (pss_cons (ps_set (i := 3) sc__law_drawn.nd rfl (Or.inl rfl) (pe_lst pa_nil))
        (pss_cons (ps_for PassesOwn.never rfl (pi_list (pe_ix (r := rIxT c.K) ix_tup (pv 2) pe_int (fun _ _ => rfl))) (pg_name (i := 4) sc__law_drawn.nd rfl (Or.inl rfl)) (pss_one (ps_expr (pe_bm PySem.F.plainAttrs_list PySem.F.slot_list_append PySem.F.type_list_append mt_append (pv 3) (pa_cons (pe_callTy (r := Zq.rTup c.K) call_tuple_of (by rfl) T.b_tuple (by decide +kernel) (pa_cons (pe_lc (own := [("_law_turn", 7)]) (g := (gName 7)) rfl sc__law_drawn.nd (pi_range1 rfl T.b_range (pa_cons (pe_ix (r := rIxL c.K) ix_list (pe_lst (pa_cons pe_int (pa_cons pe_int (pa_cons pe_int (pa_cons pe_int pa_nil))))) (pe_callB (r := Zq.rLen c.K) call_len_seq (by rfl) T.b_len (by decide +kernel) (pa_cons (pv 4) pa_nil)) (fun _ _ => rfl)) pa_nil)) (blkOk_by (N := ["_law_hand_here", "_law_cells", "_law_history_here", "_law_functions", "_law_some", "_law_one", "_law_cell", "_law_turn"]) (sc := defScope s__law_drawn) (by decide +kernel)) (fun _ _ _ _ _ => (pg_name (i := 7) sc__law_drawn.nd rfl (Or.inl rfl))) (fun _ _ _ _ _ => pts_nil) (fun _ _ _ _ _ => (pe_c g__law_draw hr (by decide) rfl (pa_cons (pv 0) (pa_cons pe_int pa_nil))))) pa_nil)) pa_nil)))))
        (pss_cons (ps_set (i := 5) sc__law_drawn.nd rfl (Or.inl rfl) (pe_callTy (r := Zq.rTup c.K) call_tuple_of (by rfl) T.b_tuple (by decide +kernel) (pa_cons (pe_lc (own := [("_law_cell", 6)]) (g := (gName 6)) rfl sc__law_drawn.nd (pi_range1 rfl T.b_range (pa_cons (pv 1) pa_nil)) (blkOk_by (N := ["_law_hand_here", "_law_cells", "_law_history_here", "_law_functions", "_law_some", "_law_one", "_law_cell", "_law_turn"]) (sc := defScope s__law_drawn) (by decide +kernel)) (fun _ _ _ _ _ => (pg_name (i := 6) sc__law_drawn.nd rfl (Or.inl rfl))) (fun _ _ _ _ _ => pts_nil) (fun _ _ _ _ _ => (pe_c g__law_draw hr (by decide) rfl (pa_cons (pv 0) (pa_cons pe_int pa_nil))))) pa_nil)))
        (pss_cons (ps_set (i := 6) sc__law_drawn.nd rfl (Or.inl rfl) (pe_c g__law_draw hr (by decide) rfl (pa_cons (pv 0) (pa_cons (pv 1) pa_nil))))
        (pss_one (ps_ret (pe_tup (pa_cons (pe_callTy (r := Zq.rTup c.K) call_tuple_of (by rfl) T.b_tuple (by decide +kernel) (pa_cons (pv 3) pa_nil)) (pa_cons (pv 5) (pa_cons (pe_op (r := rCatA c.K) op_catA (pe_op (r := rCatA c.K) op_catA (pe_slice (r := rSlA c.K) sl_tupA (pv 5) po_none (po_some (pv 6))) (pe_tup (pa_cons (pe_op op_sub pe_int (pe_ix (r := rIxT c.K) ix_tup (pv 5) (pv 6) (fun _ _ => rfl))) pa_nil))) (pe_slice (r := rSlA c.K) sl_tupA (pv 5) (po_some (pe_op op_add (pv 6) pe_int)) po_none)) pa_nil)))))))))), ?_⟩
    refine body_ok h (by decide) fun ds M R hds hM hS => ?_
    obtain ⟨n, wr, rd, la, rfl, rfl, n1, n8, rok, rl, hP⟩ := hS
    show WS c 1 _ [some (dy (MR.mk 0)), some (dy n), some (dy (T3.mk wr rd la)), none, none, none, none, none] [cHand] _ _
    walk_at "zs"
    refine we_lstC (α := Tp Int) ?_
    walk_at "zs"
    refine ⟨[], rfl, Nat.zero_le _, ?_⟩
    walk_at "zs"
    refine ws_for (S := List Fn) (β := Tp Int) (ts := [4]) (fun pre s => FnsOk pre s) (fun _ => [some (dy (MR.mk 0)), some (dy n), some (dy (T3.mk wr rd la)), some (dy (MR.mk 1)), none, none, none, none]) (fun s => [cHand, cLst s]) ?_
    refine wi_list (α := Tp Int) ?_
    walk_at "zs"
    refine ⟨rd, rfl, rd, rfl, [], ⟨rfl, fun i row h => by simp at h⟩, by walk_at "zcut", fun pre y post s e hJ => ?_, fun s hJ => ?_⟩
    · obtain ⟨i, hi⟩ := List.mem_iff_getElem?.mp (show y ∈ rd by rw [e]; simp)
      have r3 := (rok.at_ i _ hi).1
      have w8 : 2 ^ y.l.length ≤ 8 := Nat.le_trans (Nat.pow_le_pow_right (by decide) r3) (by decide)
      have p4 := pows4 r3
      have sl := hJ.len
      generalize hw : 2 ^ y.l.length = wd at *
      have pl : pre.length < rd.length := by rw [e, List.length_append, List.length_cons]; omega
      walk_at "zs"
      refine ws_app (α := Tp Int) ?_
      walk_at "zs"
      refine we_lcR (β := Int) (γ := Int) [7] (fun _ z => isB z) (fun t ht => ht) (by walk_at "zok") ?_
      refine wi_range ?_
      walk_at "zs"
      refine we_lst (α := Int) ?_
      walk_at "zs"
      refine ⟨[1, 2, 4, 8], rfl, by simp, ?_⟩
      walk_at "zs"
      refine rr_ixL (xs := [1, 2, 4, 8]) (by omega) p4 ?_
      walk_at "zs"
      refine ⟨_, rfl, by omega, by omega, rfl, upto wd, rfl, by rw [upto_len]; omega, fun y' hy' acc => ?_, fun so hso => ?_⟩
      · walk_at "zs"
        refine ⟨rfl, ?_⟩
        walk_at "zs"
        · intro z z0 z1
          exact ⟨z, rfl, rfl, z0, z1⟩
        · decide
        · decide
      have sl2 := paired_len hso
      rw [upto_len] at sl2
      walk_at "zs"
      refine ⟨by omega, ?_⟩
      exact ⟨s ++ [⟨so⟩], fnsOk_snoc hJ (sl2.symm.trans hw.symm) fun x hx => paired_r (G := isB) hso hx, by walk_at "zcut"⟩
    · walk_at "zs"
      refine we_lcR (β := Int) (γ := Int) [6] (fun _ z => isB z) (fun t ht => ht) (by walk_at "zok") ?_
      refine wi_range ?_
      walk_at "zs"
      refine ⟨n, rfl, by omega, by omega, rfl, upto n.toNat, rfl, by rw [upto_len]; omega, fun y' hy' acc => ?_, fun so hso => ?_⟩
      · walk_at "zs"
        refine ⟨rfl, ?_⟩
        walk_at "zs"
        · intro z z0 z1
          exact ⟨z, rfl, rfl, z0, z1⟩
        · decide
        · decide
      have sl2 := paired_len hso
      rw [upto_len] at sl2
      have hb : BegOk n so := ⟨sl2.symm, fun x hx => paired_r (G := isB) hso hx⟩
      walk_at "zs"
      · intro r r0 r1
        walk_at "zs"
        refine we_slA (α := Int) ?_
        walk_at "zs"
        refine wo_none (wo_some ?_)
        walk_at "zs"
        refine rr_ixT (xs := Tp.mk so) r0 (getD_get (xs := so) (by omega)) ?_
        have hx := isB_getD hb.at_ r.toNat
        generalize so.getD r.toNat 0 = x at hx
        walk_at "zs"
        refine tup_tp (α := Int) [1 - x] rfl (by simp) ?_
        rw [cut_ahead so r0]
        refine rr_catT (by show (so.take r.toNat).length + 1 ≤ _; rw [List.length_take]; omega) ?_
        walk_at "zs"
        refine we_slA (α := Int) ?_
        walk_at "zs"
        refine wo_some ?_
        walk_at "zs"
        refine wo_none ?_
        rw [cut_behind so (by omega)]
        refine rr_catT (by show (so.take r.toNat ++ [1 - x]).length + (so.drop (r + 1).toNat).length ≤ _; rw [List.length_append, List.length_take, List.length_drop]; simp only [List.length_cons, List.length_nil]; omega) ?_
        walk_at "zs"
        refine hP (T3.mk ⟨s⟩ ⟨so⟩ ⟨_⟩) ⟨hJ, hb, ?_⟩
        exact beg_put hb r0 r1 (by unfold isB at hx ⊢; omega)
      all_goals omega

theorem u__law_drawn {P : Dy → Mem → Prop} {n : Int} {wr : List Int} {rd : List (Tp Int)} {la : List Int} (h : ∀ w : World3, WOk n rd w → P (dy w) [cHand]) (h1 : 1 ≤ n) (h2 : n ≤ 8) (h3 : RdOk n rd) (h4 : rd.length ≤ 400) : sp__law_drawn [dy (MR.mk 0), dy n, dy (T3.mk wr rd la)] [cHand] P := ⟨n, wr, rd, la, rfl, rfl, h1, h2, h3, h4, h⟩
local macro_rules | `(tactic| walk_at "zu") => `(tactic| first
  | refine u_is_integer ?_
  | refine u_is_integer_th ?_
  | refine u_is_number_below ?_ ?_
  | refine u_is_number_below_th ?_
  | refine u_is_bits ?_
  | refine u_is_lot ?_ ?_
  | refine u_is_lot_of_cells ?_ ?_ ?_
  | refine u_is_kind ?_ ?_
  | refine u_is_journal ?_ ?_
  | refine u_check_journal ?_ ?_
  | refine u_fresh ?_ ?_ ?_
  | refine u_last_behind ?_ ?_ ?_
  | refine u_last_versions ?_ ?_ ?_
  | refine u_rows_behind ?_ ?_ ?_
  | refine u_source_rows ?_ ?_ ?_
  | refine u_is_version ?_ ?_ ?_ ?_ ?_
  | refine u_is_plates ?_ ?_ ?_ ?_
  | refine u_check_plates ?_ ?_ ?_ ?_
  | refine u_derived_marks ?_ ?_ ?_ ?_
  | refine u__law_is_int ?_ ?_ ?_
  | refine u__law_is_int_th ?_
  | refine u__law_flag ?_
  | refine u__law_history ?_ ?_ ?_
  | refine u__law_closure ?_ ?_ ?_ ?_
  | refine u__law_lost ?_ ?_ ?_ ?_ ?_
  | refine u__law_with ?_ ?_ ?_
  | refine u__law_draw ?_ ?_ ?_
  | refine u__law_any ?_ ?_ ?_
  | refine u__law_any_th ?_ ?_ ?_
  | refine u__law_kinds ?_ ?_ ?_ ?_ ?_
  | refine u__law_table ?_ ?_ ?_
  | refine u__law_journal ?_ ?_ ?_ ?_ ?_
  | refine u__law_versions ?_ ?_ ?_ ?_ ?_
  | refine u__law_plates ?_ ?_ ?_ ?_ ?_ ?_ ?_ ?_
  | refine u_Table_init ?_ ?_
  | refine u_is_functions ?_ ?_ ?_
  | refine u_is_functions_ty ?_ ?_ ?_ ?_
  | refine u_is_bits_ty ?_ ?_ ?_
  | refine u_bits_by_version ?_ ?_ ?_ ?_ ?_
  | refine u_bits_of ?_ ?_ ?_ ?_ ?_
  | refine u_is_parting ?_ ?_ ?_ ?_
  | refine u_is_parting_ty ?_ ?_ ?_ ?_ ?_
  | refine u_parting ?_ ?_ ?_ ?_
  | refine u__law_deep ?_ ?_ ?_
  | refine u__law_odd ?_
  | refine u__law_bits ?_ ?_ ?_ ?_ ?_ ?_
  | refine u__law_are_bits ?_ ?_
  | refine u__law_has_form ?_ ?_ ?_
  | refine u__law_parts ?_ ?_ ?_ ?_ ?_ ?_ ?_ ?_ ?_
  | refine u__law_drawn ?_ ?_ ?_ ?_ ?_)
local macro_rules | `(tactic| walk_at "zs1") => `(tactic| first
  | walk_at "zq"
  | walk_at "zu"
  | walk_at "zb")
local macro_rules | `(tactic| walk_at "zs") => `(tactic| repeat walk_at "zs1")
def fit (B : Nat) (l : List Th) : Prop := l.length ≤ B ∧ ∀ x, x ∈ l → x.wid B
theorem fit_mono {B C : Nat} {l : List Th} (h : B ≤ C) (f : fit B l) : fit C l := ⟨by have := f.1; omega, fun x hx => Th.wid_mono h x (f.2 x hx)⟩
theorem fit_tup {B : Nat} {l : List Th} : (Th.tup l).wid B ↔ fit B l := wid_tup
theorem fit_put {B : Nat} {l : List Th} (f : fit B l) {x : Th} (hx : x.wid (B + 1)) (i j : Nat) (h : i ≤ j) : fit (B + 1) ((l.take i ++ [x]) ++ l.drop j) := by
  have f1 := f.1
  refine ⟨?_, fun y hy => ?_⟩
  · rw [List.length_append, List.length_append, List.length_take, List.length_drop]
    simp only [List.length_cons, List.length_nil]
    omega
  · rcases List.mem_append.mp hy with z | z
    · rcases List.mem_append.mp z with w | w
      · exact Th.wid_mono (by omega) y (f.2 y (List.mem_of_mem_take w))
      · have : y = x := by simpa using w
        rw [this]; exact hx
    · exact Th.wid_mono (by omega) y (f.2 y (List.mem_of_mem_drop z))
theorem fit_more {B : Nat} {l : List Th} (f : fit B l) {x : Th} (hx : x.wid (B + 1)) : fit (B + 1) (l ++ [x]) := by
  have f1 := f.1
  refine ⟨by rw [List.length_append]; simp only [List.length_cons, List.length_nil]; omega, fun y hy => ?_⟩
  rcases List.mem_append.mp hy with z | z
  · exact Th.wid_mono (by omega) y (f.2 y z)
  · have : y = x := by simpa using z
    rw [this]; exact hx
theorem fit_less {B : Nat} {l : List Th} (f : fit B l) (i : Nat) : fit (B + 1) (l.take i) := ⟨by have := f.1; rw [List.length_take]; omega, fun y hy => Th.wid_mono (by omega) y (f.2 y (List.mem_of_mem_take hy))⟩
theorem fit_rev {B : Nat} {l : List Th} (f : fit B l) : fit B l.reverse := ⟨by rw [List.length_reverse]; exact f.1, fun y hy => f.2 y (List.mem_reverse.mp hy)⟩
theorem fit3 {B : Nat} {x y z : Th} (h : 3 ≤ B) (a : x.wid B) (b : y.wid B) (d : z.wid B) : fit B [x, y, z] := ⟨h, fun w hw => by
  simp only [List.mem_cons, List.not_mem_nil, or_false] at hw
  rcases hw with rfl | rfl | rfl <;> assumption⟩
theorem fit2 {B : Nat} {x y : Th} (h : 3 ≤ B) (a : x.wid B) (b : y.wid B) : fit B [x, y] := ⟨by show 2 ≤ B; omega, fun w hw => by
  simp only [List.mem_cons, List.not_mem_nil, or_false] at hw
  rcases hw with rfl | rfl <;> assumption⟩
theorem fit0 {B : Nat} (h : 3 ≤ B) : (Th.tup [.int 0]).wid B := fit_tup.mpr ⟨by show 1 ≤ B; omega, fun w hw => by
  have : w = .int 0 := by simpa using hw
  rw [this]; exact wid_int 0⟩
theorem to_tt (l : List Th) : IsTh.to (Tp.mk l) = Th.tup l := by show Th.tup (l.map id) = _; rw [List.map_id]
theorem to_ll (l : List Th) : IsTh.to l = Th.lst l := by show Th.lst (l.map id) = _; rw [List.map_id]
theorem th_w (a b d : List Th) : dy (T3.mk (Tp.mk a) (Tp.mk b) (Tp.mk d)) = dy (Th.tup [.tup a, .tup b, .tup d]) := by
  rw [← IsTh.eq]; show dy (Th.tup [IsTh.to (Tp.mk a), IsTh.to (Tp.mk b), IsTh.to (Tp.mk d)]) = _; rw [to_tt, to_tt, to_tt]
theorem th_wl (a b d : List Th) : dy (T3.mk (Tp.mk a) b (Tp.mk d)) = dy (Th.tup [.tup a, .lst b, .tup d]) := by
  rw [← IsTh.eq]; show dy (Th.tup [IsTh.to (Tp.mk a), IsTh.to b, IsTh.to (Tp.mk d)]) = _; rw [to_tt, to_ll, to_tt]
theorem th_p (a b : List Th) : dy (Tp.mk a, Tp.mk b) = dy (Th.tup [.tup a, .tup b]) := by
  rw [← IsTh.eq]; show dy (Th.tup [IsTh.to (Tp.mk a), IsTh.to (Tp.mk b)]) = _; rw [to_tt, to_tt]
theorem th_l3 (a b d : List Th) : dy [Tp.mk a, Tp.mk b, Tp.mk d] = dy (Th.lst [.tup a, .tup b, .tup d]) := by
  rw [← IsTh.eq]; show dy (Th.lst [IsTh.to (Tp.mk a), IsTh.to (Tp.mk b), IsTh.to (Tp.mk d)]) = _; rw [to_tt, to_tt, to_tt]
theorem all_tup {f o u : Th} (h : ([f, o, u].map Th.isTup).all id = true) : ∃ a b d, f = .tup a ∧ o = .tup b ∧ u = .tup d := by
  have h' : (f.isTup && (o.isTup && (u.isTup && true))) = true := h
  rw [Bool.and_eq_true, Bool.and_eq_true, Bool.and_eq_true] at h'
  obtain ⟨h1, h2, h3, _⟩ := h'
  cases f <;> first | (cases h1; done) | skip
  cases o <;> first | (cases h2; done) | skip
  cases u <;> first | (cases h3; done) | skip
  exact ⟨_, _, _, rfl, rfl, rfl⟩
end
end K03
end
section
set_option Elab.async false
set_option linter.all false
set_option maxRecDepth 100000
set_option maxHeartbeats 4000000
namespace K03
open PySem PySem.Spec PyProof.Rows L2 Zq K02
open C8 (Cal Mak pe_c pe_mk pe_gc)
local macro_rules | `(tactic| walk_at "zq") => `(tactic| first
  | with_reducible refine ws_seq ?_
  | with_reducible refine ws_asg ?_
  | (with_reducible apply ws_asgG)
  | with_reducible refine ws_next ?_
  | with_reducible refine ws_ret ?_
  | with_reducible refine ws_if ?_
  | with_reducible refine ws_drop (te := tCall _ _ _ _) ?_
  | with_reducible refine as_dy ?_
  | ((with_reducible apply we_var); focus rfl)
  | with_reducible refine we_int ?_
  | with_reducible refine we_bl ?_
  | with_reducible refine we_non ?_
  | with_reducible refine we_ty ?_
  | with_reducible refine we_str ?_
  | with_reducible refine we_op2 ?_
  | with_reducible refine we_neg ?_
  | with_reducible refine we_andV ?_
  | with_reducible refine we_orV ?_
  | with_reducible refine we_notV ?_
  | with_reducible refine we_chain ?_
  | with_reducible refine we_if ?_
  | with_reducible refine we_cb ?_
  | with_reducible refine tup_pair ?_
  | with_reducible refine tup_three ?_
  | with_reducible refine tup_nil ?_
  | with_reducible refine we_call ?_
  | with_reducible refine we_callD ?_
  | with_reducible refine we_tup ?_
  | refine we_cells (Tx.cl (by assumption)) (Tx.nc (by assumption)) ?_
  | refine we_kinds (Tx.cl (by assumption)) (Tx.nk (by assumption)) ?_
  | with_reducible refine wt_test ?_
  | with_reducible refine wt_B ?_
  | with_reducible refine wt_not ?_
  | with_reducible refine wt_and ?_
  | with_reducible refine wt_or ?_
  | with_reducible refine wt_yes ?_
  | with_reducible refine wa_cons ?_
  | with_reducible refine wa_nil ?_
  | with_reducible refine rr_II ?_
  | with_reducible refine rr_isTrue ?_
  | with_reducible refine rr_notTrue ?_
  | with_reducible refine rr_isN0 ?_
  | with_reducible refine rr_notN0 ?_
  | with_reducible refine rr_isN ?_
  | with_reducible refine rr_notN ?_
  | with_reducible refine rr_IB ?_
  | with_reducible refine rr_eqI ?_
  | with_reducible refine rr_neI ?_
  | with_reducible refine rr_eqB ?_
  | with_reducible refine rr_ixP0 ?_
  | with_reducible refine rr_ixP1 ?_
  | with_reducible refine rr_ix30 ?_
  | with_reducible refine rr_ix31 ?_
  | with_reducible refine rr_ix32 ?_
  | with_reducible refine rr_leK ?_
  | refine rr_eqD ?_
  | refine rr_neD ?_
  | with_reducible refine rr_inT ?_
  | with_reducible refine rr_ninT ?_
  | with_reducible refine rr_inL ?_
  | with_reducible refine rr_ninL ?_
  | with_reducible refine rc_isi kit_ii ?_
  | with_reducible refine rc_isi kit_ib ?_
  | with_reducible refine rc_isi kit_bb ?_
  | with_reducible refine rc_isi kit_tt ?_
  | refine rc_isInt (Tx.isi (by assumption)) ?_
  | refine rc_isBl (Tx.isi (by assumption)) ?_
  | refine rc_isTup (Tx.isi (by assumption)) ?_
  | refine rc_isStr (Tx.isi (by assumption)) ?_
  | with_reducible refine rc_lenL ?_
  | with_reducible refine rc_lenT ?_
  | with_reducible refine rc_lenP ?_
  | with_reducible refine rc_tupL ?_
  | refine rc_lenM rfl ?_
  | refine rc_tupM rfl ?_
  | ((with_reducible apply rr_inM); focus rfl)
  | ((with_reducible apply rr_ninM); focus rfl)
  | with_reducible apply wg_setM
  | refine ex_l rfl ?_
  | refine ex_d rfl ?_
  | with_reducible refine rc_int ?_
  | with_reducible refine rc_abs ?_
  | with_reducible refine rc_min2 ?_
  | with_reducible refine rc_all ?_
  | with_reducible refine rc_any ?_
  | with_reducible refine wg_name ?_
  | (apply wg_tup2)
  | (apply wg_tup3))
local macro_rules | `(tactic| walk_at "zqs") => `(tactic| repeat walk_at "zq")
local macro_rules | `(tactic| walk_at "zok1") => `(tactic| first
  | exact trivial
  | exact dy_ok _ _
  | exact cLst_ok _ _
  | exact cDic_ok _ _
  | exact hand_ok _
  | exact handX_ok
  | exact okM_nil
  | exact okE_nil
  | exact okDs_nil
  | refine okM_cons ?_ ?_
  | refine okDs_cons ?_ ?_
  | refine okE_none ?_
  | refine okE_cons ?_ ?_
  | exact mr_ok (Nat.le_of_ble_eq_true rfl)
  | exact Free.l _ _
  | exact Free.k _ _
  | exact Free.ok _ _
  | exact Frg.refl _
  | exact Frg.nil
  | refine Frg.same ?_
  | refine Frg.drop ?_)
local macro_rules | `(tactic| walk_at "zok") => `(tactic| repeat walk_at "zok1")
local macro_rules | `(tactic| walk_at "zcut") => `(tactic| exact Cut.mk (by walk_at "zok") (by walk_at "zok") (by walk_at "zok") rfl)
local macro_rules | `(tactic| walk_at "zb") => `(tactic| first
  | with_reducible refine bt_tt ?_
  | with_reducible refine bt_ff ?_
  | with_reducible refine bt_nt ?_
  | with_reducible refine bt_nf ?_
  | with_reducible refine bt_ft ?_
  | with_reducible refine bt_tf ?_
  | with_reducible refine bt_nt' ?_
  | with_reducible refine bt_nf' ?_
  | (with_reducible refine bt_t ?_ ?_
     focus (first | rfl | assumption))
  | (with_reducible refine bt_f ?_ ?_
     focus (first | rfl | assumption))
  | (with_reducible refine bt_t' ?_ ?_
     focus (first | rfl | assumption))
  | (with_reducible refine bt_f' ?_ ?_
     focus (first | rfl | assumption))
  | (refine ca5 ?_ ?_ ?_ ?_ ?_
     focus (first | rfl | decide)
     focus (first | exact Nat.zero_le _ | exact Nat.le_of_ble_eq_true rfl)
     focus (walk_at "zok"; done)
     focus (walk_at "zok"; done))
  | (refine ca3 ?_ ?_ ?_
     focus (walk_at "zok"; done)
     focus (walk_at "zok"; done)))

local macro_rules | `(tactic| walk_at "zu") => `(tactic| first
  | refine u_is_integer ?_
  | refine u_is_integer_th ?_
  | refine u_is_number_below ?_ ?_
  | refine u_is_number_below_th ?_
  | refine u_is_bits ?_
  | refine u_is_lot ?_ ?_
  | refine u_is_lot_of_cells ?_ ?_ ?_
  | refine u_is_kind ?_ ?_
  | refine u_is_journal ?_ ?_
  | refine u_check_journal ?_ ?_
  | refine u_fresh ?_ ?_ ?_
  | refine u_last_behind ?_ ?_ ?_
  | refine u_last_versions ?_ ?_ ?_
  | refine u_rows_behind ?_ ?_ ?_
  | refine u_source_rows ?_ ?_ ?_
  | refine u_is_version ?_ ?_ ?_ ?_ ?_
  | refine u_is_plates ?_ ?_ ?_ ?_
  | refine u_check_plates ?_ ?_ ?_ ?_
  | refine u_derived_marks ?_ ?_ ?_ ?_
  | refine u__law_is_int ?_ ?_ ?_
  | refine u__law_is_int_th ?_
  | refine u__law_flag ?_
  | refine u__law_history ?_ ?_ ?_
  | refine u__law_closure ?_ ?_ ?_ ?_
  | refine u__law_lost ?_ ?_ ?_ ?_ ?_
  | refine u__law_with ?_ ?_ ?_
  | refine u__law_draw ?_ ?_ ?_
  | refine u__law_any ?_ ?_ ?_
  | refine u__law_any_th ?_ ?_ ?_
  | refine u__law_kinds ?_ ?_ ?_ ?_ ?_
  | refine u__law_table ?_ ?_ ?_
  | refine u__law_journal ?_ ?_ ?_ ?_ ?_
  | refine u__law_versions ?_ ?_ ?_ ?_ ?_
  | refine u__law_plates ?_ ?_ ?_ ?_ ?_ ?_ ?_ ?_
  | refine u_Table_init ?_ ?_
  | refine u_is_functions ?_ ?_ ?_
  | refine u_is_functions_ty ?_ ?_ ?_ ?_
  | refine u_is_bits_ty ?_ ?_ ?_
  | refine u_bits_by_version ?_ ?_ ?_ ?_ ?_
  | refine u_bits_of ?_ ?_ ?_ ?_ ?_
  | refine u_is_parting ?_ ?_ ?_ ?_
  | refine u_is_parting_ty ?_ ?_ ?_ ?_ ?_
  | refine u_parting ?_ ?_ ?_ ?_
  | refine u__law_deep ?_ ?_ ?_
  | refine u__law_odd ?_
  | refine u__law_bits ?_ ?_ ?_ ?_ ?_ ?_
  | refine u__law_are_bits ?_ ?_
  | refine u__law_has_form ?_ ?_ ?_
  | refine u__law_parts ?_ ?_ ?_ ?_ ?_ ?_ ?_ ?_ ?_
  | refine u__law_drawn ?_ ?_ ?_ ?_ ?_)
local macro_rules | `(tactic| walk_at "zs1") => `(tactic| first
  | walk_at "zq"
  | walk_at "zu"
  | walk_at "zb")
local macro_rules | `(tactic| walk_at "zs") => `(tactic| repeat walk_at "zs1")
section
variable {P : Program} {w : World} {c : Cc} {mg : Str → Option Value} {base : Heap}
/-- _law_bent -/
def sp__law_bent : ASp := fun ds M P => ∃ (x o : Th) (B : Nat), ds = [dy (MR.mk 0), dy x, dy o] ∧ M = [cHand] ∧ 3 ≤ B ∧ B ≤ 500 ∧ x.wid B ∧ o.wid B ∧ ∀ y : Th, y.wid (B + 1) → P (dy y) [cHand]
theorem sc__law_bent : FnScope ["_law_hand_here", "_law_thing", "_law_odd_here", "_law_way", "_law_some", "_law_functions", "_law_one", "_law_two", "_law_at", "_law_bits_here", "_law_spot", "_law_cell", "_law_part"] ["_law_hand_here", "_law_thing", "_law_odd_here"] (defScope s__law_bent) := ⟨rfl, rfl, rfl, by decide +kernel, rfl, by decide +kernel, by decide +kernel⟩
theorem ok__law_bent {f : Addr} {fd : FuncData} (F : Fun c.K "_law_bent" "_law_bent" s__law_bent f fd) (T : Tb mg) (X : Tx c) (g__law_draw : Cal P w c.K mg base 1 "_law_draw" (spOf c 2 1 sp__law_draw) []) (g__law_any : Cal P w c.K mg base 2 "_law_any" (spOf c 2 1 sp__law_any) []) :
    FnOk P w c.K mg base CX0 3 f fd ["_law_hand_here", "_law_thing", "_law_odd_here"] (spOf c 3 1 sp__law_bent) := by
  refine F.ok sc__law_bent (fun vs H Q E h => ?_) (fun cdv A outer s H vs Q E hr h => ?_)
  · obtain ⟨as, F, ds, M, P, _, hn, _, rd, _⟩ := h
    rw [rd.length, hn]; rfl
  · have hu1 : (A.deeper (envOfC "_law_bent" (defScope s__law_bent) s.heap.objs.size f cdv)).units + 1 < cLine := hu_of hr
    have hu8 : (A.deeper (envOfC "_law_bent" (defScope s__law_bent) s.heap.objs.size f cdv)).units + 8 < cLine := by have := hr.un; omega
    have hu16 : (A.deeper (envOfC "_law_bent" (defScope s__law_bent) s.heap.objs.size f cdv)).units + 16 < cLine := by have := hr.un; omega
    have hu64 : (A.deeper (envOfC "_law_bent" (defScope s__law_bent) s.heap.objs.size f cdv)).units + 64 < cLine := by have := hr.un; omega
    have hu65 : (A.deeper (envOfC "_law_bent" (defScope s__law_bent) s.heap.objs.size f cdv)).units + 65 < cLine := by have := hr.un; omega
    refine ⟨_, (pss_cons (ps_if (PW.pt (pw_or (pt_not (pt_val (pe_callB (r := rIsi c.K) call_isi (by rfl) T.b_isinstance (by decide +kernel) (pa_cons (pv 1) (pa_cons (pe_bltn (v := .ty "tuple") rfl T.b_tuple (by decide +kernel) rfl) pa_nil))))) (pw_or (pt_cmpR op_ne (pe_callB (r := Zq.rLen c.K) call_len_seq (by rfl) T.b_len (by decide +kernel) (pa_cons (pv 1) pa_nil)) pe_int (nomark _)) (pw_or1 (pt_not (pt_val (pe_callB (r := rAll c.K) (cr_all rfl) (by rfl) T.b_all (by decide +kernel) (pa_cons (pe_lc (own := [("_law_part", 12)]) (g := (gName 12)) rfl sc__law_bent.nd (pi_tup (pv 1)) (blkOk_by (N := ["_law_hand_here", "_law_thing", "_law_odd_here", "_law_way", "_law_some", "_law_functions", "_law_one", "_law_two", "_law_at", "_law_bits_here", "_law_spot", "_law_cell", "_law_part"]) (sc := defScope s__law_bent) (by decide +kernel)) (fun _ _ _ _ _ => (pg_name (i := 12) sc__law_bent.nd rfl (Or.inl rfl))) (fun _ _ _ _ _ => pts_nil) (fun _ _ _ _ _ => (pe_callB (r := rIsi c.K) call_isi (by rfl) T.b_isinstance (by decide +kernel) (pa_cons (pv 12) (pa_cons (pe_bltn (v := .ty "tuple") rfl T.b_tuple (by decide +kernel) rfl) pa_nil))))) pa_nil)))))))) (pss_one (ps_ret (pv 2))) pss_nil)
        (pss_cons (ps_asg (pv 1) (pg_tup rfl (pgs_cons (pg_name (i := 5) sc__law_bent.nd rfl (Or.inl rfl)) (pgs_cons (pg_name (i := 6) sc__law_bent.nd rfl (Or.inl rfl)) (pgs_cons (pg_name (i := 7) sc__law_bent.nd rfl (Or.inl rfl)) pgs_nil)))))
        (pss_cons (ps_set (i := 3) sc__law_bent.nd rfl (Or.inl rfl) (pe_c g__law_draw hr (by decide) rfl (pa_cons (pv 0) (pa_cons pe_int pa_nil))))
        (pss_cons (ps_if (PW.pt (pw_and (pt_cmpR op_lt (pv 3) pe_int (nomark _)) (pw_and1 (pt_cmpR op_gt (pe_callB (r := Zq.rLen c.K) call_len_seq (by rfl) T.b_len (by decide +kernel) (pa_cons (pv 5) pa_nil)) pe_int (nomark _))))) (pss_cons (ps_set (i := 8) sc__law_bent.nd rfl (Or.inl rfl) (pe_c g__law_draw hr (by decide) rfl (pa_cons (pv 0) (pa_cons (pe_callB (r := Zq.rLen c.K) call_len_seq (by rfl) T.b_len (by decide +kernel) (pa_cons (pv 5) pa_nil)) pa_nil))))
        (pss_cons (ps_set (i := 9) sc__law_bent.nd rfl (Or.inl rfl) (pe_ix (r := rIxT c.K) ix_tup (pv 5) (pv 8) (fun _ _ => rfl)))
        (pss_cons (ps_if (PW.pt (pw_or (pt_not (pt_val (pe_callB (r := rIsi c.K) call_isi (by rfl) T.b_isinstance (by decide +kernel) (pa_cons (pv 9) (pa_cons (pe_bltn (v := .ty "tuple") rfl T.b_tuple (by decide +kernel) rfl) pa_nil))))) (pw_or1 (pt_cmpR op_eq (pe_callB (r := Zq.rLen c.K) call_len_seq (by rfl) T.b_len (by decide +kernel) (pa_cons (pv 9) pa_nil)) pe_int (nomark _))))) (pss_one (ps_ret (pv 2))) pss_nil)
        (pss_cons (ps_set (i := 10) sc__law_bent.nd rfl (Or.inl rfl) (pe_c g__law_draw hr (by decide) rfl (pa_cons (pv 0) (pa_cons (pe_callB (r := Zq.rLen c.K) call_len_seq (by rfl) T.b_len (by decide +kernel) (pa_cons (pv 9) pa_nil)) pa_nil))))
        (pss_cons (ps_set (i := 4) sc__law_bent.nd rfl (Or.inl rfl) (pe_lst (pa_cons (pe_op (r := rCatA c.K) op_catA (pe_op (r := rCatA c.K) op_catA (pe_slice (r := rSlA c.K) sl_tupA (pv 9) po_none (po_some (pv 10))) (pe_tup (pa_cons (pe_c g__law_any hr (by decide) rfl (pa_cons (pv 0) (pa_cons (pe_lst (pa_cons pe_int (pa_cons pe_int (pa_cons pe_int (pa_cons pe_bl (pa_cons (pv 2) pa_nil)))))) pa_nil))) pa_nil))) (pe_slice (r := rSlA c.K) sl_tupA (pv 9) (po_some (pe_op op_add (pv 10) pe_int)) po_none)) (pa_cons (pe_op (r := rCatA c.K) op_catA (pv 9) (pe_tup (pa_cons pe_int pa_nil))) (pa_cons (pe_slice (r := rSlA c.K) sl_tupA (pv 9) po_none (po_some (pe_un un_neg pe_int))) pa_nil)))))
        (pss_cons (ps_set (i := 4) sc__law_bent.nd rfl (Or.inl rfl) (pe_op (r := Zr.rCatL c.K) Zr.op_catL (pv 4) (pe_lst (pa_cons (pe_callTy (r := Zq.rLst c.K) call_list_of (by rfl) T.b_list (by decide +kernel) (pa_cons (pv 9) pa_nil)) (pa_cons (pv 2) (pa_cons (Zr.pe_revT (pv 9)) pa_nil))))))
        (pss_one (ps_ret (pe_tup (pa_cons (pe_op (r := rCatA c.K) op_catA (pe_op (r := rCatA c.K) op_catA (pe_slice (r := rSlA c.K) sl_tupA (pv 5) po_none (po_some (pv 8))) (pe_tup (pa_cons (pe_c g__law_any hr (by decide) rfl (pa_cons (pv 0) (pa_cons (pv 4) pa_nil))) pa_nil))) (pe_slice (r := rSlA c.K) sl_tupA (pv 5) (po_some (pe_op op_add (pv 8) pe_int)) po_none)) (pa_cons (pv 6) (pa_cons (pv 7) pa_nil)))))))))))) pss_nil)
        (pss_cons (ps_if (pt_cmpR op_lt (pv 3) pe_int (nomark _)) (pss_cons (ps_set (i := 11) sc__law_bent.nd rfl (Or.inl rfl) (pe_c g__law_draw hr (by decide) rfl (pa_cons (pv 0) (pa_cons (pe_op op_add (pe_callB (r := Zq.rLen c.K) call_len_seq (by rfl) T.b_len (by decide +kernel) (pa_cons (pv 6) pa_nil)) pe_int) pa_nil))))
        (pss_one (ps_ret (pe_tup (pa_cons (pv 5) (pa_cons (pe_op (r := rCatA c.K) op_catA (pe_op (r := rCatA c.K) op_catA (pe_slice (r := rSlA c.K) sl_tupA (pv 6) po_none (po_some (pv 11))) (pe_tup (pa_cons (pe_c g__law_any hr (by decide) rfl (pa_cons (pv 0) (pa_cons (pe_lst (pa_cons pe_int (pa_cons pe_int (pa_cons pe_bl (pa_cons pe_int (pa_cons (pv 2) pa_nil)))))) pa_nil))) pa_nil))) (pe_slice (r := rSlA c.K) sl_tupA (pv 6) (po_some (pe_op op_add (pv 11) pe_int)) po_none)) (pa_cons (pv 7) pa_nil))))))) pss_nil)
        (pss_cons (ps_set (i := 4) sc__law_bent.nd rfl (Or.inl rfl) (pe_lst (pa_cons (pe_tup (pa_cons (pv 5) (pa_cons (pv 7) (pa_cons (pv 6) pa_nil)))) (pa_cons (pe_tup (pa_cons (pv 5) (pa_cons (pv 6) (pa_cons (pv 6) pa_nil)))) (pa_cons (pe_tup (pa_cons (pe_slice (r := rSlA c.K) sl_tupA (pv 5) po_none (po_some (pe_un un_neg pe_int))) (pa_cons (pv 6) (pa_cons (pv 7) pa_nil)))) (pa_cons (pe_tup (pa_cons (pe_op (r := rCatA c.K) op_catA (pv 5) (pe_tup (pa_cons (pe_tup (pa_cons pe_int pa_nil)) pa_nil))) (pa_cons (pv 6) (pa_cons (pv 7) pa_nil)))) pa_nil))))))
        (pss_one (ps_ret (pe_c g__law_any hr (by decide) rfl (pa_cons (pv 0) (pa_cons (pe_op (r := Zr.rCatL c.K) Zr.op_catL (pv 4) (pe_lst (pa_cons (pe_lst (pa_cons (pv 5) (pa_cons (pv 6) (pa_cons (pv 7) pa_nil)))) (pa_cons (pe_tup (pa_cons (pv 5) (pa_cons (pv 6) pa_nil))) (pa_cons (pe_tup (pa_cons (pv 5) (pa_cons (pe_callTy (r := Zq.rLst c.K) call_list_of (by rfl) T.b_list (by decide +kernel) (pa_cons (pv 6) pa_nil)) (pa_cons (pv 7) pa_nil)))) (pa_cons (pv 2) pa_nil)))))) pa_nil))))))))))), ?_⟩
    refine body_ok h (by decide) fun ds M R hds hM hS => ?_
    obtain ⟨x, od, B, rfl, rfl, b3, b5, wx, wo, hP⟩ := hS
    have wo' := Th.wid_mono (show B ≤ B + 1 by omega) od wo
    have hO := hP od wo'
    show WS c 1 _ [some (dy (MR.mk 0)), some (dy x), some (dy od), none, none, none, none, none, none, none, none, none, none] [cHand] _ _
    cases x with
    | tup l =>
      rw [th_tup]
      walk_at "zs"
      rcases three_or l with ⟨f, o, u, rfl⟩ | h3
      · have w3 := (fit_tup.mp wx).2
        have wf := w3 f (by simp)
        have wg := w3 o (by simp)
        have wu := w3 u (by simp)
        have e1 : (!decide ((([f, o, u] : List Th).length : Int) = 3)) = false := rfl
        walk_at "zs"
        refine we_lcM (β := Th) (γ := Bool) [12] Th.isTup (fun t ht => ht) (by walk_at "zok") ?_
        refine wi_tup (α := Th) ?_
        walk_at "zs"
        refine ⟨⟨[f, o, u]⟩, rfl, rfl, [f, o, u], rfl, by simp, fun y hy acc => ?_, ?_⟩
        · walk_at "zs"
          refine ⟨rfl, ?_⟩
          walk_at "zs"
          exact ⟨rfl, rfl⟩
        walk_at "zs"
        cases ba : ([f, o, u].map Th.isTup).all id with
        | false =>
          walk_at "zs"
          exact hO
        | true =>
          obtain ⟨fl, ol, ul, rfl, rfl, rfl⟩ := all_tup ba
          have ff := fit_tup.mp wf
          have fo := fit_tup.mp wg
          have fu := fit_tup.mp wu
          have lf := ff.1
          have lo := fo.1
          walk_at "zs"
          rw [← th_tup [Th.tup fl, Th.tup ol, Th.tup ul], th_three]
          walk_at "zs"
          rw [th_tup fl, th_tup ol, th_tup ul]
          · intro r r0 r1
            let J : Env' → Mem → Prop := fun e m => m = [cHand] ∧ Frg e [some (dy (MR.mk 0)), none, some (dy od), some (dy r), none, some (dy (Tp.mk fl)), some (dy (Tp.mk ol)), some (dy (Tp.mk ul)), none, none, none, none, none]
            refine ws_seqJ J ?_ fun e m hJ => ?_
            · walk_at "zs"
              refine ⟨fun q => ?_, fun q => ?_⟩
              · walk_at "zs"
                by_cases h0 : fl.length = 0
                · have e2 : decide ((0 : Int) < ((fl.length : Nat) : Int)) = false := decide_eq_false (by omega)
                  walk_at "zs"
                  exact ⟨rfl, by walk_at "zok"⟩
                have e2 : decide ((0 : Int) < ((fl.length : Nat) : Int)) = true := decide_eq_true (by omega)
                walk_at "zs"
                · intro i i0 i1
                  have hi : i.toNat < fl.length := by have : i < ((fl.length : Nat) : Int) := i1; omega
                  walk_at "zs"
                  refine rr_ixT (xs := Tp.mk fl) i0 (List.getElem?_eq_getElem hi) ?_
                  have wb := ff.2 _ (List.getElem_mem hi)
                  generalize fl[i.toNat] = b at wb
                  walk_at "zs"
                  cases b with
                  | tup bl =>
                    have fb := fit_tup.mp wb
                    have lb := fb.1
                    walk_at "zs"
                    rw [th_tup bl]
                    walk_at "zs"
                    by_cases h1 : bl.length = 0
                    · have e3 : decide (((bl.length : Nat) : Int) = 0) = true := decide_eq_true (by omega)
                      walk_at "zs"
                      exact hO
                    have e3 : decide (((bl.length : Nat) : Int) = 0) = false := decide_eq_false (by omega)
                    walk_at "zs"
                    · intro j j0 j1
                      walk_at "zs"
                      refine we_lst (α := Th) ?_
                      walk_at "zs"
                      refine we_slA (α := Th) ?_
                      walk_at "zs"
                      refine wo_none (wo_some ?_)
                      walk_at "zs"
                      refine we_lst (α := Th) ?_
                      walk_at "zs"
                      refine ⟨[.int 0, .int 1, .int 2, .bl true, od], by simp only [List.map_cons, List.map_nil, th_int, th_bl], by simp, ?_⟩
                      rw [cut_ahead bl j0]
                      walk_at "zs"
                      · intro z hz
                        have wz : z.wid (B + 1) := by
                          simp only [List.mem_cons, List.not_mem_nil, or_false] at hz
                          rcases hz with rfl | rfl | rfl | rfl | rfl <;> first | exact wo' | simp [Th.wid]
                        walk_at "zs"
                        refine tup_tp (α := Th) [z] rfl (by simp) ?_
                        refine rr_catT (by show (bl.take j.toNat).length + 1 ≤ _; rw [List.length_take]; omega) ?_
                        walk_at "zs"
                        refine we_slA (α := Th) ?_
                        walk_at "zs"
                        refine wo_some ?_
                        walk_at "zs"
                        refine wo_none ?_
                        rw [cut_behind bl (by omega)]
                        refine rr_catT (by show (bl.take j.toNat ++ [z]).length + (bl.drop (j + 1).toNat).length ≤ _; rw [List.length_append, List.length_take, List.length_drop]; simp only [List.length_cons, List.length_nil]; omega) ?_
                        have p1 := fit_put fb wz j.toNat (j + 1).toNat (by omega)
                        generalize ((bl.take j.toNat ++ [z]) ++ bl.drop (j + 1).toNat) = l1 at *
                        walk_at "zs"
                        refine tup_tp (α := Th) [.int 0] (by simp only [List.map_cons, List.map_nil, th_int]) (by simp) ?_
                        refine rr_catT (by show bl.length + 1 ≤ _; omega) ?_
                        have p2 := fit_more fb (x := .int 0) (wid_int 0)
                        generalize bl ++ [.int 0] = l2 at *
                        walk_at "zs"
                        refine we_slA (α := Th) ?_
                        walk_at "zs"
                        refine wo_none (wo_some ?_)
                        walk_at "zs"
                        rw [cut_last bl]
                        have p3 := fit_less fb (bl.length - 1)
                        have p5 := fit_mono (show B ≤ B + 1 by omega) fb
                        have p6 := fit_rev p5
                        generalize bl.take (bl.length - 1) = l3 at *
                        refine ⟨[.tup l1, .tup l2, .tup l3], by simp only [List.map_cons, List.map_nil, th_tup], by simp, ?_⟩
                        walk_at "zs"
                        refine we_lst (α := Th) ?_
                        walk_at "zs"
                        refine rc_lstTF ?_
                        walk_at "zs"
                        refine we_revT (α := Th) ?_
                        walk_at "zs"
                        refine ⟨[.lst bl, od, .tup bl.reverse], by simp only [List.map_cons, List.map_nil, th_tup, th_lst], by simp, ?_⟩
                        refine rr_catL (by simp) ?_
                        walk_at "zs"
                        refine we_slA (α := Th) ?_
                        walk_at "zs"
                        refine wo_none (wo_some ?_)
                        walk_at "zs"
                        · intro z2 hz2
                          have wz2 : z2.wid (B + 1) := by
                            simp only [List.cons_append, List.nil_append, List.mem_cons, List.not_mem_nil, or_false] at hz2
                            rcases hz2 with rfl | rfl | rfl | rfl | rfl | rfl <;> first | exact wo' | exact fit_tup.mpr p1 | exact fit_tup.mpr p2 | exact fit_tup.mpr p3 | exact fit_tup.mpr p6 | exact wid_lst.mpr p5
                          rw [cut_ahead fl i0]
                          walk_at "zs"
                          refine tup_tp (α := Th) [z2] rfl (by simp) ?_
                          refine rr_catT (by show (fl.take i.toNat).length + 1 ≤ _; rw [List.length_take]; omega) ?_
                          walk_at "zs"
                          refine we_slA (α := Th) ?_
                          walk_at "zs"
                          refine wo_some ?_
                          walk_at "zs"
                          refine wo_none ?_
                          rw [cut_behind fl (by omega)]
                          refine rr_catT (by show (fl.take i.toNat ++ [z2]).length + (fl.drop (i + 1).toNat).length ≤ _; rw [List.length_append, List.length_take, List.length_drop]; simp only [List.length_cons, List.length_nil]; omega) ?_
                          have p4 := fit_put ff wz2 i.toNat (i + 1).toNat (by omega)
                          generalize ((fl.take i.toNat ++ [z2]) ++ fl.drop (i + 1).toNat) = l4 at *
                          walk_at "zs"
                          rw [th_w]
                          exact hP _ (fit_tup.mpr (fit3 (by omega) (fit_tup.mpr p4) (fit_tup.mpr (fit_mono (by omega) fo)) (fit_tup.mpr (fit_mono (by omega) fu))))
                        · simp
                        · simp
                      · simp
                      · simp
                    · first | omega | (dsimp only; omega)
                    · first | omega | (dsimp only; omega)
                  | _ =>
                    walk_at "zs"
                    exact hO
                · first | omega | (dsimp only; omega)
                · first | omega | (dsimp only; omega)
              · walk_at "zs"
                exact ⟨rfl, by walk_at "zok"⟩
            · obtain ⟨rfl, hf⟩ := hJ
              refine ws_frg hf ?_
              walk_at "zs"
              refine ⟨fun q => ?_, fun q => ?_⟩
              · walk_at "zs"
                · intro i i0 i1
                  walk_at "zs"
                  refine we_slA (α := Th) ?_
                  walk_at "zs"
                  refine wo_none (wo_some ?_)
                  walk_at "zs"
                  refine we_lst (α := Th) ?_
                  walk_at "zs"
                  refine ⟨[.int 0, .int 1, .bl true, .int 2, od], by simp only [List.map_cons, List.map_nil, th_int, th_bl], by simp, ?_⟩
                  rw [cut_ahead ol i0]
                  walk_at "zs"
                  · intro z hz
                    have wz : z.wid (B + 1) := by
                      simp only [List.mem_cons, List.not_mem_nil, or_false] at hz
                      rcases hz with rfl | rfl | rfl | rfl | rfl <;> first | exact wo' | simp [Th.wid]
                    walk_at "zs"
                    refine tup_tp (α := Th) [z] rfl (by simp) ?_
                    refine rr_catT (by show (ol.take i.toNat).length + 1 ≤ _; rw [List.length_take]; omega) ?_
                    walk_at "zs"
                    refine we_slA (α := Th) ?_
                    walk_at "zs"
                    refine wo_some ?_
                    walk_at "zs"
                    refine wo_none ?_
                    rw [cut_behind ol (by omega)]
                    refine rr_catT (by show (ol.take i.toNat ++ [z]).length + (ol.drop (i + 1).toNat).length ≤ _; rw [List.length_append, List.length_take, List.length_drop]; simp only [List.length_cons, List.length_nil]; omega) ?_
                    have p4 := fit_put fo wz i.toNat (i + 1).toNat (by omega)
                    generalize ((ol.take i.toNat ++ [z]) ++ ol.drop (i + 1).toNat) = l4 at *
                    walk_at "zs"
                    rw [th_w]
                    exact hP _ (fit_tup.mpr (fit3 (by omega) (fit_tup.mpr (fit_mono (by omega) ff)) (fit_tup.mpr p4) (fit_tup.mpr (fit_mono (by omega) fu))))
                  · simp
                  · simp
                · first | omega | (dsimp only; omega)
                · first | omega | (dsimp only; omega)
              · walk_at "zs"
                have gf := fit_mono (show B ≤ B + 1 by omega) ff
                have go := fit_mono (show B ≤ B + 1 by omega) fo
                have gu := fit_mono (show B ≤ B + 1 by omega) fu
                refine we_lst (α := Th) ?_
                walk_at "zs"
                refine we_slA (α := Th) ?_
                walk_at "zs"
                refine wo_none (wo_some ?_)
                walk_at "zs"
                rw [cut_last fl]
                have p3 := fit_less ff (fl.length - 1)
                generalize fl.take (fl.length - 1) = l3 at *
                walk_at "zs"
                refine tup_tp (α := Th) [.int 0] (by simp only [List.map_cons, List.map_nil, th_int]) (by simp) ?_
                walk_at "zs"
                refine tup_tp (α := Th) [.tup [.int 0]] (by simp only [List.map_cons, List.map_nil, th_tup]) (by simp) ?_
                refine rr_catT (by show fl.length + 1 ≤ _; omega) ?_
                have p4 := fit_more ff (x := .tup [.int 0]) (fit0 (by omega))
                generalize fl ++ [.tup [.int 0]] = l4 at *
                walk_at "zs"
                refine ⟨[.tup [.tup fl, .tup ul, .tup ol], .tup [.tup fl, .tup ol, .tup ol], .tup [.tup l3, .tup ol, .tup ul], .tup [.tup l4, .tup ol, .tup ul]], by simp only [List.map_cons, List.map_nil, th_w], by simp, ?_⟩
                walk_at "zs"
                refine we_lst (α := Th) ?_
                walk_at "zs"
                refine we_lst (α := Tp Th) ?_
                walk_at "zs"
                refine ⟨[⟨fl⟩, ⟨ol⟩, ⟨ul⟩], rfl, by simp, ?_⟩
                walk_at "zs"
                refine rc_lstTF ?_
                walk_at "zs"
                refine ⟨[.lst [.tup fl, .tup ol, .tup ul], .tup [.tup fl, .tup ol], .tup [.tup fl, .lst ol, .tup ul], od], by simp only [List.map_cons, List.map_nil, th_l3, th_p, th_wl], by simp, ?_⟩
                refine rr_catL (by simp) ?_
                walk_at "zs"
                · intro z hz
                  walk_at "zs"
                  refine hP z ?_
                  have tf := fit_tup.mpr gf
                  have to_ := fit_tup.mpr go
                  have tu := fit_tup.mpr gu
                  have t3 := fit_tup.mpr p3
                  have t4 := fit_tup.mpr p4
                  have lo_ : (Th.lst ol).wid (B + 1) := wid_lst.mpr go
                  have c3 : 3 ≤ B + 1 := by omega
                  simp only [List.cons_append, List.nil_append, List.mem_cons, List.not_mem_nil, or_false] at hz
                  rcases hz with rfl | rfl | rfl | rfl | rfl | rfl | rfl | rfl
                  · exact fit_tup.mpr (fit3 c3 tf tu to_)
                  · exact fit_tup.mpr (fit3 c3 tf to_ to_)
                  · exact fit_tup.mpr (fit3 c3 t3 to_ tu)
                  · exact fit_tup.mpr (fit3 c3 t4 to_ tu)
                  · exact wid_lst.mpr (fit3 c3 tf to_ tu)
                  · exact fit_tup.mpr (fit2 c3 tf to_)
                  · exact fit_tup.mpr (fit3 c3 tf lo_ tu)
                  · exact wo'
                · simp
                · simp
          · decide
          · decide
      · have e1 : (!decide (((l.length : Nat) : Int) = 3)) = true := by rw [decide_eq_false (by omega)]; rfl
        walk_at "zs"
        exact hO
    | _ =>
      walk_at "zs"
      exact hO

theorem u__law_bent {P : Dy → Mem → Prop} {x o : Th} {B : Nat} (h : ∀ y : Th, y.wid (B + 1) → P (dy y) [cHand]) (h1 : 3 ≤ B) (h2 : B ≤ 500) (h3 : x.wid B) (h4 : o.wid B) : sp__law_bent [dy (MR.mk 0), dy x, dy o] [cHand] P := ⟨x, o, B, rfl, rfl, h1, h2, h3, h4, h⟩
local macro_rules | `(tactic| walk_at "zu") => `(tactic| first
  | refine u_is_integer ?_
  | refine u_is_integer_th ?_
  | refine u_is_number_below ?_ ?_
  | refine u_is_number_below_th ?_
  | refine u_is_bits ?_
  | refine u_is_lot ?_ ?_
  | refine u_is_lot_of_cells ?_ ?_ ?_
  | refine u_is_kind ?_ ?_
  | refine u_is_journal ?_ ?_
  | refine u_check_journal ?_ ?_
  | refine u_fresh ?_ ?_ ?_
  | refine u_last_behind ?_ ?_ ?_
  | refine u_last_versions ?_ ?_ ?_
  | refine u_rows_behind ?_ ?_ ?_
  | refine u_source_rows ?_ ?_ ?_
  | refine u_is_version ?_ ?_ ?_ ?_ ?_
  | refine u_is_plates ?_ ?_ ?_ ?_
  | refine u_check_plates ?_ ?_ ?_ ?_
  | refine u_derived_marks ?_ ?_ ?_ ?_
  | refine u__law_is_int ?_ ?_ ?_
  | refine u__law_is_int_th ?_
  | refine u__law_flag ?_
  | refine u__law_history ?_ ?_ ?_
  | refine u__law_closure ?_ ?_ ?_ ?_
  | refine u__law_lost ?_ ?_ ?_ ?_ ?_
  | refine u__law_with ?_ ?_ ?_
  | refine u__law_draw ?_ ?_ ?_
  | refine u__law_any ?_ ?_ ?_
  | refine u__law_any_th ?_ ?_ ?_
  | refine u__law_kinds ?_ ?_ ?_ ?_ ?_
  | refine u__law_table ?_ ?_ ?_
  | refine u__law_journal ?_ ?_ ?_ ?_ ?_
  | refine u__law_versions ?_ ?_ ?_ ?_ ?_
  | refine u__law_plates ?_ ?_ ?_ ?_ ?_ ?_ ?_ ?_
  | refine u_Table_init ?_ ?_
  | refine u_is_functions ?_ ?_ ?_
  | refine u_is_functions_ty ?_ ?_ ?_ ?_
  | refine u_is_bits_ty ?_ ?_ ?_
  | refine u_bits_by_version ?_ ?_ ?_ ?_ ?_
  | refine u_bits_of ?_ ?_ ?_ ?_ ?_
  | refine u_is_parting ?_ ?_ ?_ ?_
  | refine u_is_parting_ty ?_ ?_ ?_ ?_ ?_
  | refine u_parting ?_ ?_ ?_ ?_
  | refine u__law_deep ?_ ?_ ?_
  | refine u__law_odd ?_
  | refine u__law_bits ?_ ?_ ?_ ?_ ?_ ?_
  | refine u__law_are_bits ?_ ?_
  | refine u__law_has_form ?_ ?_ ?_
  | refine u__law_parts ?_ ?_ ?_ ?_ ?_ ?_ ?_ ?_ ?_
  | refine u__law_drawn ?_ ?_ ?_ ?_ ?_
  | refine u__law_bent ?_ ?_ ?_ ?_ ?_)
local macro_rules | `(tactic| walk_at "zs1") => `(tactic| first
  | walk_at "zq"
  | walk_at "zu"
  | walk_at "zb")
local macro_rules | `(tactic| walk_at "zs") => `(tactic| repeat walk_at "zs1")
end
end K03
end
section
set_option Elab.async false
set_option linter.all false
set_option maxRecDepth 100000
set_option maxHeartbeats 4000000
namespace K03
open PySem PySem.Spec PyProof.Rows L2 Zq K02
open C8 (Cal Mak pe_c pe_mk pe_gc)
local macro_rules | `(tactic| walk_at "zq") => `(tactic| first
  | with_reducible refine ws_seq ?_
  | with_reducible refine ws_asg ?_
  | (with_reducible apply ws_asgG)
  | with_reducible refine ws_next ?_
  | with_reducible refine ws_ret ?_
  | with_reducible refine ws_if ?_
  | with_reducible refine ws_drop (te := tCall _ _ _ _) ?_
  | with_reducible refine as_dy ?_
  | ((with_reducible apply we_var); focus rfl)
  | with_reducible refine we_int ?_
  | with_reducible refine we_bl ?_
  | with_reducible refine we_non ?_
  | with_reducible refine we_ty ?_
  | with_reducible refine we_str ?_
  | with_reducible refine we_op2 ?_
  | with_reducible refine we_neg ?_
  | with_reducible refine we_andV ?_
  | with_reducible refine we_orV ?_
  | with_reducible refine we_notV ?_
  | with_reducible refine we_chain ?_
  | with_reducible refine we_cb ?_
  | with_reducible refine tup_pair ?_
  | with_reducible refine tup_three ?_
  | with_reducible refine tup_nil ?_
  | with_reducible refine we_call ?_
  | with_reducible refine we_callD ?_
  | with_reducible refine we_tup ?_
  | refine we_cells (Tx.cl (by assumption)) (Tx.nc (by assumption)) ?_
  | refine we_kinds (Tx.cl (by assumption)) (Tx.nk (by assumption)) ?_
  | with_reducible refine wt_test ?_
  | with_reducible refine wt_B ?_
  | with_reducible refine wt_not ?_
  | with_reducible refine wt_and ?_
  | with_reducible refine wt_or ?_
  | with_reducible refine wt_yes ?_
  | with_reducible refine wa_cons ?_
  | with_reducible refine wa_nil ?_
  | with_reducible refine rr_II ?_
  | with_reducible refine rr_isTrue ?_
  | with_reducible refine rr_notTrue ?_
  | with_reducible refine rr_isN0 ?_
  | with_reducible refine rr_notN0 ?_
  | with_reducible refine rr_isN ?_
  | with_reducible refine rr_notN ?_
  | with_reducible refine rr_neB ?_
  | with_reducible refine rr_isNo ?_
  | with_reducible refine rr_notNo ?_
  | with_reducible refine rr_IB ?_
  | with_reducible refine rr_eqI ?_
  | with_reducible refine rr_neI ?_
  | with_reducible refine rr_eqB ?_
  | with_reducible refine rr_ixP0 ?_
  | with_reducible refine rr_ixP1 ?_
  | with_reducible refine rr_ix30 ?_
  | with_reducible refine rr_ix31 ?_
  | with_reducible refine rr_ix32 ?_
  | with_reducible refine rr_leK ?_
  | refine rr_eqD ?_
  | refine rr_neD ?_
  | with_reducible refine rr_inT ?_
  | with_reducible refine rr_ninT ?_
  | with_reducible refine rr_inL ?_
  | with_reducible refine rr_ninL ?_
  | with_reducible refine rc_isi kit_ii ?_
  | with_reducible refine rc_isi kit_ib ?_
  | with_reducible refine rc_isi kit_bb ?_
  | with_reducible refine rc_isi kit_tt ?_
  | refine rc_isInt (Tx.isi (by assumption)) ?_
  | refine rc_isBl (Tx.isi (by assumption)) ?_
  | refine rc_isTup (Tx.isi (by assumption)) ?_
  | refine rc_isStr (Tx.isi (by assumption)) ?_
  | with_reducible refine rc_lenL ?_
  | with_reducible refine rc_lenT ?_
  | with_reducible refine rc_lenP ?_
  | with_reducible refine rc_tupL ?_
  | refine rc_lenM rfl ?_
  | refine rc_tupM rfl ?_
  | ((with_reducible apply rr_inM); focus rfl)
  | ((with_reducible apply rr_ninM); focus rfl)
  | with_reducible refine rc_lstTC ?_
  | with_reducible apply wg_setM
  | refine ex_l rfl ?_
  | refine ex_d rfl ?_
  | with_reducible refine rc_int ?_
  | with_reducible refine rc_abs ?_
  | with_reducible refine rc_min2 ?_
  | with_reducible refine rc_all ?_
  | with_reducible refine rc_any ?_
  | with_reducible refine wg_name ?_
  | (apply wg_tup2)
  | (apply wg_tup3))
local macro_rules | `(tactic| walk_at "zqs") => `(tactic| repeat walk_at "zq")
local macro_rules | `(tactic| walk_at "zok1") => `(tactic| first
  | exact trivial
  | exact dy_ok _ _
  | exact cLst_ok _ _
  | exact cDic_ok _ _
  | exact hand_ok _
  | exact handX_ok
  | exact okM_nil
  | exact okE_nil
  | exact okDs_nil
  | refine okM_cons ?_ ?_
  | refine okDs_cons ?_ ?_
  | refine okE_none ?_
  | refine okE_cons ?_ ?_
  | exact mr_ok (Nat.le_of_ble_eq_true rfl)
  | exact Free.l _ _
  | exact Free.k _ _
  | exact Free.ok _ _
  | exact Frg.refl _
  | exact Frg.nil
  | refine Frg.same ?_
  | refine Frg.drop ?_)
local macro_rules | `(tactic| walk_at "zok") => `(tactic| repeat walk_at "zok1")
local macro_rules | `(tactic| walk_at "zcut") => `(tactic| exact Cut.mk (by walk_at "zok") (by walk_at "zok") (by walk_at "zok") rfl)
local macro_rules | `(tactic| walk_at "zb") => `(tactic| first
  | with_reducible refine bt_tt ?_
  | with_reducible refine bt_ff ?_
  | with_reducible refine bt_nt ?_
  | with_reducible refine bt_nf ?_
  | with_reducible refine bt_ft ?_
  | with_reducible refine bt_tf ?_
  | with_reducible refine bt_nt' ?_
  | with_reducible refine bt_nf' ?_
  | (with_reducible refine bt_t ?_ ?_
     focus (first | rfl | assumption))
  | (with_reducible refine bt_f ?_ ?_
     focus (first | rfl | assumption))
  | (with_reducible refine bt_t' ?_ ?_
     focus (first | rfl | assumption))
  | (with_reducible refine bt_f' ?_ ?_
     focus (first | rfl | assumption))
  | (refine ca5 ?_ ?_ ?_ ?_ ?_
     focus (first | rfl | decide)
     focus (first | exact Nat.zero_le _ | exact Nat.le_of_ble_eq_true rfl)
     focus (walk_at "zok"; done)
     focus (walk_at "zok"; done))
  | (refine ca3 ?_ ?_ ?_
     focus (walk_at "zok"; done)
     focus (walk_at "zok"; done)))

local macro_rules | `(tactic| walk_at "zu") => `(tactic| first
  | refine u_is_integer ?_
  | refine u_is_integer_th ?_
  | refine u_is_number_below ?_ ?_
  | refine u_is_number_below_th ?_
  | refine u_is_bits ?_
  | refine u_is_lot ?_ ?_
  | refine u_is_lot_of_cells ?_ ?_ ?_
  | refine u_is_kind ?_ ?_
  | refine u_is_journal ?_ ?_
  | refine u_check_journal ?_ ?_
  | refine u_fresh ?_ ?_ ?_
  | refine u_last_behind ?_ ?_ ?_
  | refine u_last_versions ?_ ?_ ?_
  | refine u_rows_behind ?_ ?_ ?_
  | refine u_source_rows ?_ ?_ ?_
  | refine u_is_version ?_ ?_ ?_ ?_ ?_
  | refine u_is_plates ?_ ?_ ?_ ?_
  | refine u_check_plates ?_ ?_ ?_ ?_
  | refine u_derived_marks ?_ ?_ ?_ ?_
  | refine u__law_is_int ?_ ?_ ?_
  | refine u__law_is_int_th ?_
  | refine u__law_flag ?_
  | refine u__law_history ?_ ?_ ?_
  | refine u__law_closure ?_ ?_ ?_ ?_
  | refine u__law_lost ?_ ?_ ?_ ?_ ?_
  | refine u__law_with ?_ ?_ ?_
  | refine u__law_draw ?_ ?_ ?_
  | refine u__law_any ?_ ?_ ?_
  | refine u__law_any_th ?_ ?_ ?_
  | refine u__law_kinds ?_ ?_ ?_ ?_ ?_
  | refine u__law_table ?_ ?_ ?_
  | refine u__law_journal ?_ ?_ ?_ ?_ ?_
  | refine u__law_versions ?_ ?_ ?_ ?_ ?_
  | refine u__law_plates ?_ ?_ ?_ ?_ ?_ ?_ ?_ ?_
  | refine u_Table_init ?_ ?_
  | refine u_is_functions ?_ ?_ ?_
  | refine u_is_functions_ty ?_ ?_ ?_ ?_
  | refine u_is_bits_ty ?_ ?_ ?_
  | refine u_bits_by_version ?_ ?_ ?_ ?_ ?_
  | refine u_bits_of ?_ ?_ ?_ ?_ ?_
  | refine u_is_parting ?_ ?_ ?_ ?_
  | refine u_is_parting_ty ?_ ?_ ?_ ?_ ?_
  | refine u_parting ?_ ?_ ?_ ?_
  | refine u__law_deep ?_ ?_ ?_
  | refine u__law_odd ?_
  | refine u__law_bits ?_ ?_ ?_ ?_ ?_ ?_
  | refine u__law_are_bits ?_ ?_
  | refine u__law_has_form ?_ ?_ ?_
  | refine u__law_parts ?_ ?_ ?_ ?_ ?_ ?_ ?_ ?_ ?_
  | refine u__law_drawn ?_ ?_ ?_ ?_ ?_
  | refine u__law_bent ?_ ?_ ?_ ?_ ?_)
local macro_rules | `(tactic| walk_at "zs1") => `(tactic| first
  | walk_at "zq"
  | walk_at "zu"
  | walk_at "zb")
local macro_rules | `(tactic| walk_at "zs") => `(tactic| repeat walk_at "zs1")
section
variable {P : Program} {w : World} {c : Cc} {mg : Str → Option Value} {base : Heap}
theorem sc__law_hand : FnScope ["_law_script", "_law_cells", "_law_cell"] ["_law_script"] (defScope s__law_hand) := ⟨rfl, rfl, rfl, by decide +kernel, rfl, by decide +kernel, by decide +kernel⟩
theorem ok__law_hand {f : Addr} {fd : FuncData} (F : Fun c.K "_law_hand" "_law_hand" s__law_hand f fd) (T : Tb mg) (X : Tx c) :
    FnOk P w c.K mg base CX0 1 f fd ["_law_script"] (spHand c) := by
  refine F.ok sc__law_hand (fun vs H Q E h => ?_) (fun cdv A outer s H vs Q E hr h => ?_)
  · obtain ⟨F, ns, mm, rd, _⟩ := h
    exact rd.length
  · have hu1 : (A.deeper (envOfC "_law_hand" (defScope s__law_hand) s.heap.objs.size f cdv)).units + 1 < cLine := hu_of hr
    refine ⟨_, (pss_cons (ps_setLc (i := 1) (own := [("_law_cell", 2)]) (g := (gName 2)) rfl sc__law_hand.nd rfl rfl (sw_true rfl rfl rfl (by decide +kernel)) (pi_list (pe_slice (r := rSlL c.K) sl_list (pv 0) po_none (po_some pe_int))) (blkOk_by (N := ["_law_script", "_law_cells", "_law_cell"]) (sc := defScope s__law_hand) (by decide +kernel)) (fun _ _ _ _ _ => (pg_name (i := 2) sc__law_hand.nd rfl (Or.inl rfl))) (fun _ _ _ _ _ => pts_nil) (fun _ _ _ _ _ => (pe_callB (r := Zq.rAbs) call_abs (by rfl) T.b_abs (by decide +kernel) (pa_cons (pe_callTy (r := Zq.rInt1) call_int1 (by rfl) T.b_int (by decide +kernel) (pa_cons (pv 2) pa_nil)) pa_nil))))
        (pss_one (ps_ret (pe_lst (pa_cons (pv 1) (pa_cons pe_int (pa_cons pe_int (pa_cons (pe_op op_add pe_int (pe_callB (r := Zq.rLen c.K) call_len_seq (by rfl) T.b_len (by decide +kernel) (pa_cons (pv 1) pa_nil))) (pa_cons pe_int pa_nil))))))))), ?_⟩
    refine body_hand h (by decide) fun ns hl => ?_
    show WS c 0 _ [some (dy ns), none, none] [] _ _
    walk_at "zs"
    refine we_lcM (β := Int) (γ := Int) [2] (fun x => if x < 0 then -x else x) (fun t ht => ht) trivial ?_
    refine wi_list (α := Int) ?_
    refine we_slTo (n := 63) (α := Int) ?_
    walk_at "zs"
    have tl := List.length_take_le 63 ns
    refine ⟨_, rfl, rfl, ns.take 63, rfl, by omega, fun y hy acc => ?_, ?_⟩
    · walk_at "zs"
      refine ⟨rfl, ?_⟩
      walk_at "zs"
      exact ⟨rfl, rfl⟩
    refine we_lstH ?_
    walk_at "zs"
    exact ⟨_, _, _, _, _, rfl, by decide, rfl, rfl⟩

theorem wid_ints {B : Nat} {b : List Int} (h : b.length ≤ B) : (IsTh.to (Tp.mk b)).wid B := wid_tup.mpr ⟨by rw [List.length_map]; exact h, fun x hx => by
  obtain ⟨i, _, rfl⟩ := List.mem_map.mp hx
  exact wid_int i⟩
theorem wid_world {n : Int} {rd : List (Tp Int)} {w : World3} (h : WOk n rd w) (h8 : n ≤ 8) (hr : rd.length ≤ 400) (h3 : ∀ row, row ∈ rd → row.l.length ≤ 3) : (IsTh.to w).wid 490 := by
  have lf := h.f.len
  have lo := h.o.len
  have lt := h.t.len
  refine wid_tup.mpr ⟨by simp, fun x hx => ?_⟩
  simp only [List.mem_cons, List.not_mem_nil, or_false] at hx
  rcases hx with rfl | rfl | rfl
  · refine wid_tup.mpr ⟨by rw [List.length_map]; omega, fun y hy => ?_⟩
    obtain ⟨f, hf, rfl⟩ := List.mem_map.mp hy
    obtain ⟨i, hi⟩ := List.mem_iff_getElem?.mp hf
    have il := (List.getElem?_eq_some_iff.mp hi).1
    have hrow : rd[i]? = some rd[i] := List.getElem?_eq_getElem (by omega)
    obtain ⟨g, g1, g2, _⟩ := h.f.at_ i _ hrow
    rw [hi] at g1; cases g1
    have w8 : 2 ^ rd[i].l.length ≤ 8 := Nat.le_trans (Nat.pow_le_pow_right (by decide) (h3 _ (List.mem_of_getElem? hrow))) (by decide)
    exact wid_ints (by omega)
  · exact wid_ints (b := w.b.l) (by omega)
  · exact wid_ints (b := w.c.l) (by omega)
theorem u__law_any_w {P : Dy → Mem → Prop} {xs : List World3} (h : ∀ w : World3, w ∈ xs → P (dy (IsTh.to w)) [cHand]) (h1 : xs ≠ []) (h2 : xs.length ≤ 1000) : sp__law_any [dy (MR.mk 0), dy xs] [cHand] P := ⟨xs.map IsTh.to, by rw [to_map], rfl, by simpa using h1, by rw [List.length_map]; exact h2, fun t ht => by obtain ⟨w, hw, rfl⟩ := List.mem_map.mp ht; exact h w hw⟩
local macro_rules | `(tactic| walk_at "zu") => `(tactic| first
  | refine u_is_integer ?_
  | refine u_is_integer_th ?_
  | refine u_is_number_below ?_ ?_
  | refine u_is_number_below_th ?_
  | refine u_is_bits ?_
  | refine u_is_lot ?_ ?_
  | refine u_is_lot_of_cells ?_ ?_ ?_
  | refine u_is_kind ?_ ?_
  | refine u_is_journal ?_ ?_
  | refine u_check_journal ?_ ?_
  | refine u_fresh ?_ ?_ ?_
  | refine u_last_behind ?_ ?_ ?_
  | refine u_last_versions ?_ ?_ ?_
  | refine u_rows_behind ?_ ?_ ?_
  | refine u_source_rows ?_ ?_ ?_
  | refine u_is_version ?_ ?_ ?_ ?_ ?_
  | refine u_is_plates ?_ ?_ ?_ ?_
  | refine u_check_plates ?_ ?_ ?_ ?_
  | refine u_derived_marks ?_ ?_ ?_ ?_
  | refine u__law_is_int ?_ ?_ ?_
  | refine u__law_is_int_th ?_
  | refine u__law_flag ?_
  | refine u__law_history ?_ ?_ ?_
  | refine u__law_closure ?_ ?_ ?_ ?_
  | refine u__law_lost ?_ ?_ ?_ ?_ ?_
  | refine u__law_with ?_ ?_ ?_
  | refine u__law_draw ?_ ?_ ?_
  | refine u__law_any ?_ ?_ ?_
  | refine u__law_any_th ?_ ?_ ?_
  | refine u__law_kinds ?_ ?_ ?_ ?_ ?_
  | refine u__law_table ?_ ?_ ?_
  | refine u__law_journal ?_ ?_ ?_ ?_ ?_
  | refine u__law_versions ?_ ?_ ?_ ?_ ?_
  | refine u__law_plates ?_ ?_ ?_ ?_ ?_ ?_ ?_ ?_
  | refine u_Table_init ?_ ?_
  | refine u_is_functions ?_ ?_ ?_
  | refine u_is_functions_ty ?_ ?_ ?_ ?_
  | refine u_is_bits_ty ?_ ?_ ?_
  | refine u_bits_by_version ?_ ?_ ?_ ?_ ?_
  | refine u_bits_of ?_ ?_ ?_ ?_ ?_
  | refine u_is_parting ?_ ?_ ?_ ?_
  | refine u_is_parting_ty ?_ ?_ ?_ ?_ ?_
  | refine u_parting ?_ ?_ ?_ ?_
  | refine u__law_deep ?_ ?_ ?_
  | refine u__law_odd ?_
  | refine u__law_bits ?_ ?_ ?_ ?_ ?_ ?_
  | refine u__law_are_bits ?_ ?_
  | refine u__law_has_form ?_ ?_ ?_
  | refine u__law_parts ?_ ?_ ?_ ?_ ?_ ?_ ?_ ?_ ?_
  | refine u__law_drawn ?_ ?_ ?_ ?_ ?_
  | refine u__law_bent ?_ ?_ ?_ ?_ ?_
  | refine u__law_any_w ?_ ?_ ?_)
local macro_rules | `(tactic| walk_at "zs1") => `(tactic| first
  | walk_at "zq"
  | walk_at "zu"
  | walk_at "zb")
local macro_rules | `(tactic| walk_at "zs") => `(tactic| repeat walk_at "zs1")
theorem u__law_parts_ty {M : Mem} {P : Dy → Mem → Prop} {n : Int} {wr : List Int} {rd : List (Tp Int)} {la ps : List Int} {w : World3} (h : P (dy (parts rd la ps w.a.l w.b.l w.c.l)) M) (h1 : RdOk n rd) (h2 : n ≤ 8) (h3 : rd.length ≤ 400) (h4 : la.length ≤ 8) (h5 : ps.length ≤ 8) (h6 : ∀ v, v ∈ ps → -n ≤ v ∧ v < (rd.length : Int)) (h7 : ∀ v, v ∈ la → -n ≤ v ∧ v < (rd.length : Int)) (h8 : WOk n rd w ∧ slim (IsTh.to w)) : sp__law_parts [dy n, dy (T3.mk wr rd la), dy (Tp.mk ps), dy w] M P := ⟨n, wr, rd, la, ps, IsTh.to w, by rw [IsTh.eq], h1, h2, h3, h4, h5, h6, h7, h8.2, by rw [part_to h8.1 h1.n0]; exact h⟩
local macro_rules | `(tactic| walk_at "zu") => `(tactic| first
  | refine u_is_integer ?_
  | refine u_is_integer_th ?_
  | refine u_is_number_below ?_ ?_
  | refine u_is_number_below_th ?_
  | refine u_is_bits ?_
  | refine u_is_lot ?_ ?_
  | refine u_is_lot_of_cells ?_ ?_ ?_
  | refine u_is_kind ?_ ?_
  | refine u_is_journal ?_ ?_
  | refine u_check_journal ?_ ?_
  | refine u_fresh ?_ ?_ ?_
  | refine u_last_behind ?_ ?_ ?_
  | refine u_last_versions ?_ ?_ ?_
  | refine u_rows_behind ?_ ?_ ?_
  | refine u_source_rows ?_ ?_ ?_
  | refine u_is_version ?_ ?_ ?_ ?_ ?_
  | refine u_is_plates ?_ ?_ ?_ ?_
  | refine u_check_plates ?_ ?_ ?_ ?_
  | refine u_derived_marks ?_ ?_ ?_ ?_
  | refine u__law_is_int ?_ ?_ ?_
  | refine u__law_is_int_th ?_
  | refine u__law_flag ?_
  | refine u__law_history ?_ ?_ ?_
  | refine u__law_closure ?_ ?_ ?_ ?_
  | refine u__law_lost ?_ ?_ ?_ ?_ ?_
  | refine u__law_with ?_ ?_ ?_
  | refine u__law_draw ?_ ?_ ?_
  | refine u__law_any ?_ ?_ ?_
  | refine u__law_any_th ?_ ?_ ?_
  | refine u__law_kinds ?_ ?_ ?_ ?_ ?_
  | refine u__law_table ?_ ?_ ?_
  | refine u__law_journal ?_ ?_ ?_ ?_ ?_
  | refine u__law_versions ?_ ?_ ?_ ?_ ?_
  | refine u__law_plates ?_ ?_ ?_ ?_ ?_ ?_ ?_ ?_
  | refine u_Table_init ?_ ?_
  | refine u_is_functions ?_ ?_ ?_
  | refine u_is_functions_ty ?_ ?_ ?_ ?_
  | refine u_is_bits_ty ?_ ?_ ?_
  | refine u_bits_by_version ?_ ?_ ?_ ?_ ?_
  | refine u_bits_of ?_ ?_ ?_ ?_ ?_
  | refine u_is_parting ?_ ?_ ?_ ?_
  | refine u_is_parting_ty ?_ ?_ ?_ ?_ ?_
  | refine u_parting ?_ ?_ ?_ ?_
  | refine u__law_deep ?_ ?_ ?_
  | refine u__law_odd ?_
  | refine u__law_bits ?_ ?_ ?_ ?_ ?_ ?_
  | refine u__law_are_bits ?_ ?_
  | refine u__law_has_form ?_ ?_ ?_
  | refine u__law_parts ?_ ?_ ?_ ?_ ?_ ?_ ?_ ?_ ?_
  | refine u__law_drawn ?_ ?_ ?_ ?_ ?_
  | refine u__law_bent ?_ ?_ ?_ ?_ ?_
  | refine u__law_any_w ?_ ?_ ?_
  | refine u__law_parts_ty ?_ ?_ ?_ ?_ ?_ ?_ ?_ ?_ ?_)
local macro_rules | `(tactic| walk_at "zs1") => `(tactic| first
  | walk_at "zq"
  | walk_at "zu"
  | walk_at "zb")
local macro_rules | `(tactic| walk_at "zs") => `(tactic| repeat walk_at "zs1")
/-- law -/
def sp_law : ASp := fun ds M P => ∃ ns : List Int, ds = [dy ns] ∧ ns.length ≤ 63 ∧ P (dy true) M
theorem sc_law : FnScope ["_law_script", "_law_hand_here", "_law_turn", "_law_great", "_law_table_here", "_law_line", "_law_history_here", "_law_plates_here", "_law_told", "_law_some", "_law_again", "_law_cells", "_law_kinds_here", "_law_functions", "_law_one", "_law_two", "_law_bits_here", "_law_thing", "_law_change", "_law_deed"] ["_law_script"] (defScope s_law) := ⟨rfl, rfl, rfl, by decide +kernel, rfl, by decide +kernel, by decide +kernel⟩
theorem ok_law {f : Addr} {fd : FuncData} (F : Fun c.K "law" "law" s_law f fd) (T : Tb mg) (X : Tx c) (g__law_hand : Cal P w c.K mg base 1 "_law_hand" (spHand c) []) (g__law_draw : Cal P w c.K mg base 1 "_law_draw" (spOf c 2 1 sp__law_draw) []) (g__law_table : Cal P w c.K mg base 3 "_law_table" (spOf c 2 1 sp__law_table) []) (g__law_journal : Cal P w c.K mg base 2 "_law_journal" (spOf c 3 1 sp__law_journal) []) (g__law_history : Cal P w c.K mg base 1 "_law_history" (spOf c 3 0 sp__law_history) []) (g__law_plates : Cal P w c.K mg base 3 "_law_plates" (spOf c 3 1 sp__law_plates) []) (g_parting : Cal P w c.K mg base 8 "parting" (spOf c 3 0 sp_parting) []) (g__law_lost : Cal P w c.K mg base 2 "_law_lost" (spOf c 2 0 sp__law_lost) []) (g__law_drawn : Cal P w c.K mg base 2 "_law_drawn" (spOf c 3 1 sp__law_drawn) []) (g__law_bits : Cal P w c.K mg base 1 "_law_bits" (spOf c 3 0 sp__law_bits) []) (g_bits_of : Cal P w c.K mg base 5 "bits_of" (spOf c 4 0 sp_bits_of) []) (g_is_parting : Cal P w c.K mg base 7 "is_parting" (spOf c 4 0 sp_is_parting) []) (g__law_parts : Cal P w c.K mg base 4 "_law_parts" (spOf c 4 0 sp__law_parts) []) (g__law_any : Cal P w c.K mg base 2 "_law_any" (spOf c 2 1 sp__law_any) []) (g__law_bent : Cal P w c.K mg base 3 "_law_bent" (spOf c 3 1 sp__law_bent) []) (g__law_odd : Cal P w c.K mg base 3 "_law_odd" (spOf c 2 1 sp__law_odd) []) (g__law_flag : Cal P w c.K mg base 1 "_law_flag" (spOf c 2 0 sp__law_flag) []) (g_Table : Mak P w c.K mg base 5 "Table" (c.cls "Table") (spOf c 3 1 (sp_Table_init c)) []) :
    FnOk P w c.K mg base CX0 9 f fd ["_law_script"] (spOf c 1 0 sp_law) := by
  refine F.ok sc_law (fun vs H Q E h => ?_) (fun cdv A outer s H vs Q E hr h => ?_)
  · obtain ⟨as, F, ds, M, P, _, hn, _, rd, _⟩ := h
    rw [rd.length, hn]; rfl
  · have hu1 : (A.deeper (envOfC "law" (defScope s_law) s.heap.objs.size f cdv)).units + 1 < cLine := hu_of hr
    have hu8 : (A.deeper (envOfC "law" (defScope s_law) s.heap.objs.size f cdv)).units + 8 < cLine := by have := hr.un; omega
    have hu16 : (A.deeper (envOfC "law" (defScope s_law) s.heap.objs.size f cdv)).units + 16 < cLine := by have := hr.un; omega
    have hu64 : (A.deeper (envOfC "law" (defScope s_law) s.heap.objs.size f cdv)).units + 64 < cLine := by have := hr.un; omega
    have hu65 : (A.deeper (envOfC "law" (defScope s_law) s.heap.objs.size f cdv)).units + 65 < cLine := by have := hr.un; omega
    refine ⟨_, (pss_cons (ps_set (i := 1) sc_law.nd rfl (Or.inr rfl) (pe_c g__law_hand hr (by decide) rfl (pa_cons (pv 0) pa_nil)))
        (pss_cons (ps_for PassesOwn.never rfl (pi_range1 rfl T.b_range (pa_cons pe_int pa_nil)) (pg_name (i := 2) sc_law.nd rfl (Or.inl rfl)) (pss_cons (ps_set (i := 3) sc_law.nd rfl (Or.inl rfl) (pe_cmpR op_eq (pe_c g__law_draw hr (by decide) rfl (pa_cons (pv 1) (pa_cons pe_int pa_nil))) pe_int (nomark _)))
        (pss_cons (ps_asg (pe_c g__law_table hr (by decide) rfl (pa_cons (pv 1) (pa_cons (pe_ifExp (pt_val (pv 3)) pe_int pe_int) pa_nil))) (pg_tup rfl (pgs_cons (pg_name (i := 11) sc_law.nd rfl (Or.inr rfl)) (pgs_cons (pg_name (i := 12) sc_law.nd rfl (Or.inl rfl)) pgs_nil))))
        (pss_cons (ps_set (i := 4) sc_law.nd rfl (Or.inl rfl) (pe_mk g_Table hr (by decide) rfl (pa_cons (pv 11) (pa_cons (pv 12) pa_nil))))
        (pss_cons (ps_set (i := 5) sc_law.nd rfl (Or.inl rfl) (pe_c g__law_journal hr (by decide) rfl (pa_cons (pv 1) (pa_cons (pv 12) (pa_cons (pe_ifExp (pt_val (pv 3)) pe_int pe_int) pa_nil)))))
        (pss_cons (ps_set (i := 6) sc_law.nd rfl (Or.inr rfl) (pe_c g__law_history hr (by decide) rfl (pa_cons (pv 11) (pa_cons (pv 12) (pa_cons (pv 5) pa_nil)))))
        (pss_cons (ps_set (i := 7) sc_law.nd rfl (Or.inl rfl) (pe_c g__law_plates hr (by decide) rfl (pa_cons (pv 1) (pa_cons (pv 11) (pa_cons (pv 6) pa_nil)))))
        (pss_cons (ps_set (i := 8) sc_law.nd rfl (Or.inl rfl) (pe_c g_parting hr (by decide) rfl (pa_cons (pv 4) (pa_cons (pv 5) (pa_cons (pv 7) pa_nil)))))
        (pss_cons (ps_if (pt_cmpR op_ne (pe_cmpR (r := Zq.rIsN) op_isN (pv 8) pe_non (nomark _)) (pe_cmpR (r := rEqD c.K) (op_eqD hu64) (pe_c g__law_lost hr (by decide) rfl (pa_cons (pv 6) (pa_cons (pv 7) pa_nil))) (pe_tup pa_nil) (nomark _)) (nomark _)) (pss_one (ps_ret pe_bl)) pss_nil)
        (pss_cons (ps_setLc (i := 9) (own := [("_law_again", 10)]) (g := (gName 10)) rfl sc_law.nd rfl rfl (sw_true rfl rfl rfl (by decide +kernel)) (pi_range1 rfl T.b_range (pa_cons pe_int pa_nil)) (blkOk_by (N := ["_law_script", "_law_hand_here", "_law_turn", "_law_great", "_law_table_here", "_law_line", "_law_history_here", "_law_plates_here", "_law_told", "_law_some", "_law_again", "_law_cells", "_law_kinds_here", "_law_functions", "_law_one", "_law_two", "_law_bits_here", "_law_thing", "_law_change", "_law_deed"]) (sc := defScope s_law) (by decide +kernel)) (fun _ _ _ _ _ => (pg_name (i := 10) sc_law.nd rfl (Or.inl rfl))) (fun _ _ _ _ _ => pts_nil) (fun _ _ _ _ _ => (pe_c g__law_drawn hr (by decide) rfl (pa_cons (pv 1) (pa_cons (pv 11) (pa_cons (pv 6) pa_nil))))))
        (pss_cons (ps_for PassesOwn.never rfl (pi_list (pv 9)) (pg_tup rfl (pgs_cons (pg_name (i := 13) sc_law.nd rfl (Or.inl rfl)) (pgs_cons (pg_name (i := 14) sc_law.nd rfl (Or.inl rfl)) (pgs_cons (pg_name (i := 15) sc_law.nd rfl (Or.inl rfl)) pgs_nil)))) (pss_cons (ps_set (i := 16) sc_law.nd rfl (Or.inr rfl) (pe_c g__law_bits hr (by decide) rfl (pa_cons (pv 6) (pa_cons (pv 13) (pa_cons (pv 14) pa_nil)))))
        (pss_one (ps_if (pt_cmpR (r := rNeD c.K) (op_neD hu64) (pe_c g_bits_of hr (by decide) rfl (pa_cons (pv 4) (pa_cons (pv 5) (pa_cons (pv 13) (pa_cons (pv 14) pa_nil))))) (pe_callTy (r := Zq.rTup c.K) call_tuple_of (by rfl) T.b_tuple (by decide +kernel) (pa_cons (pe_lc (own := [("_law_deed", 19)]) (g := (gName 19)) rfl sc_law.nd (pi_range1 rfl T.b_range (pa_cons (pe_callB (r := Zq.rLen c.K) call_len_seq (by rfl) T.b_len (by decide +kernel) (pa_cons (pv 5) pa_nil)) pa_nil)) (blkOk_by (N := ["_law_script", "_law_hand_here", "_law_turn", "_law_great", "_law_table_here", "_law_line", "_law_history_here", "_law_plates_here", "_law_told", "_law_some", "_law_again", "_law_cells", "_law_kinds_here", "_law_functions", "_law_one", "_law_two", "_law_bits_here", "_law_thing", "_law_change", "_law_deed"]) (sc := defScope s_law) (by decide +kernel)) (fun _ _ _ _ _ => (pg_name (i := 19) sc_law.nd rfl (Or.inl rfl))) (fun _ _ _ _ _ => pts_nil) (fun _ _ _ _ _ => (pe_dget hu1 (pv 16) (pv 19) (fun _ _ => rfl)))) pa_nil)) (nomark _)) (pss_one (ps_ret pe_bl)) pss_nil))))
        (pss_cons (ps_if (pt_cmpR (r := Zq.rNotN) op_notN (pv 8) pe_non (nomark _)) (pss_cons (ps_if (PW.pt (pw_or (pt_not (pt_val (pe_c g__law_parts hr (by decide) rfl (pa_cons (pv 11) (pa_cons (pv 6) (pa_cons (pv 7) (pa_cons (pv 8) pa_nil))))))) (pw_or1 (pt_cmpR op_notBl (pe_c g_is_parting hr (by decide) rfl (pa_cons (pv 4) (pa_cons (pv 5) (pa_cons (pv 7) (pa_cons (pv 8) pa_nil))))) pe_bl (nomark _))))) (pss_one (ps_ret pe_bl)) pss_nil)
        (pss_one (ps_set (i := 9) sc_law.nd rfl (Or.inl rfl) (pe_op (r := Zr.rCatL c.K) Zr.op_catL (pv 9) (pe_lst (pa_cons (pv 8) pa_nil)))))) pss_nil)
        (pss_one (ps_for PassesOwn.never rfl (pi_range1 rfl T.b_range (pa_cons pe_int pa_nil)) (pg_name (i := 10) sc_law.nd rfl (Or.inl rfl)) (pss_cons (ps_set (i := 17) sc_law.nd rfl (Or.inl rfl) (pe_c g__law_any hr (by decide) rfl (pa_cons (pv 1) (pa_cons (pv 9) pa_nil))))
        (pss_cons (ps_for PassesOwn.never rfl (pi_range1 rfl T.b_range (pa_cons (pe_c g__law_draw hr (by decide) rfl (pa_cons (pv 1) (pa_cons pe_int pa_nil))) pa_nil)) (pg_name (i := 18) sc_law.nd rfl (Or.inl rfl)) (pss_one (ps_set (i := 17) sc_law.nd rfl (Or.inl rfl) (pe_c g__law_bent hr (by decide) rfl (pa_cons (pv 1) (pa_cons (pv 17) (pa_cons (pe_c g__law_odd hr (by decide) rfl (pa_cons (pv 1) (pa_cons (pv 4) pa_nil))) pa_nil)))))))
        (pss_one (ps_if (pt_not (pt_val (pe_c g__law_flag hr (by decide) rfl (pa_cons (pe_c g_is_parting hr (by decide) rfl (pa_cons (pv 4) (pa_cons (pv 5) (pa_cons (pv 7) (pa_cons (pv 17) pa_nil))))) (pa_cons (pe_c g__law_parts hr (by decide) rfl (pa_cons (pv 11) (pa_cons (pv 6) (pa_cons (pv 7) (pa_cons (pv 17) pa_nil))))) pa_nil))))) (pss_one (ps_ret pe_bl)) pss_nil))))))))))))))))))
        (pss_one (ps_ret pe_bl)))), ?_⟩
    refine body_ok h (by decide) fun ds M R hds hM hS => ?_
    obtain ⟨ns, rfl, hl, hP⟩ := hS
    obtain rfl := List.length_eq_zero_iff.mp hM
    show WS c 0 _ [some (dy ns), none, none, none, none, none, none, none, none, none, none, none, none, none, none, none, none, none, none, none] [] _ _
    walk_at "zs"
    refine we_callH ?_
    walk_at "zs"
    refine ⟨ns, rfl, hl, ?_⟩
    walk_at "zs"
    refine ws_for (β := Int) (S := Unit) (ts := [2]) (fun _ _ => True) (fun _ => [some (dy ns), some (dy (MR.mk 0)), none, none, none, none, none, none, none, none, none, none, none, none, none, none, none, none, none, none]) (fun _ => [cHand]) ?_
    refine wi_range ?_
    walk_at "zs"
    refine ⟨4, rfl, by decide, by decide, upto 4, rfl, (), trivial, by walk_at "zcut", fun pre y post s e hJ => ?_, fun s hJ => ?_⟩
    · walk_at "zs"
      · intro r r0 r1
        walk_at "zs"
        refine we_ifR ?_ fun z hz => ?_
        · walk_at "zs"
          rfl
        walk_at "zs"
        · intro n ks hk
          have n1 := hk.n1
          have n8 := hk.n8
          walk_at "zs"
          refine we_makeT ?_
          walk_at "zs"
          refine ⟨rfl, by walk_at "zok", u_Table_init ?_ hk⟩
          refine ⟨⟨n, ⟨ks⟩⟩, _, _, rfl, rfl, rfl, rfl, Free.l _ _, ?_⟩
          walk_at "zs"
          refine we_ifR ?_ fun z2 hz2 => ?_
          · walk_at "zs"
            rfl
          walk_at "zs"
          · intro js hj hj60
            obtain ⟨b1, b2, b3⟩ := hok_b hk hj
            have ho := hok hk js hj.at_
            have wb := wr_b hk hj
            have hla := la_ok hk js hj.at_
            have rok := rd_ok hk js hj
            walk_at "zs"
            · intro ps hp
              have p8 := hp.le n8
              have lo := la_low hk hj
              have pw := pl_low hk hj hp
              have ff := first_fact hk hj hp
              rw [← ho.rl] at lo pw
              have on : (toldO n (hist n ks js).rd (hist n ks js).la ps).isNone = decide (Tp.mk (lostOf (hist n ks js).rd (hist n ks js).la ps) = Tp.mk []) := by
                rw [tp_nil]
                unfold toldO
                by_cases h : lostOf (hist n ks js).rd (hist n ks js).la ps = []
                · rw [if_pos h, decide_eq_true h]; rfl
                · rw [if_neg h, decide_eq_false h]; rfl
              have os : ∀ w, toldO n (hist n ks js).rd (hist n ks js).la ps = some w → w = wTold n (hist n ks js).rd ps ∧ lostOf (hist n ks js).rd (hist n ks js).la ps ≠ [] := by
                unfold toldO
                intro w q
                by_cases h : lostOf (hist n ks js).rd (hist n ks js).la ps = []
                · rw [if_pos h] at q; cases q
                · rw [if_neg h] at q; cases q; exact ⟨rfl, h⟩
              walk_at "zs"
              generalize toldO n (hist n ks js).rd (hist n ks js).la ps = o at on os ⊢
              have e1 : (!decide (o.isNone = decide (Tp.mk (lostOf (hist n ks js).rd (hist n ks js).la ps) = Tp.mk []))) = false := by rw [on]; simp
              walk_at "zs"
              · refine we_lcR (β := Int) (γ := World3) [10] (fun _ w => WOk n (hist n ks js).rd w) (fun t ht => ht) (by walk_at "zok") ?_
                refine wi_range ?_
                walk_at "zs"
                refine ⟨3, rfl, by decide, by decide, rfl, upto 3, rfl, by decide, fun y' hy' acc => ?_, fun so hso => ?_⟩
                · walk_at "zs"
                  refine ⟨rfl, ?_⟩
                  walk_at "zs"
                  · intro w hw
                    exact ⟨w, rfl, rfl, hw⟩
                  all_goals assumption
                have sl := paired_len hso
                rw [upto_len] at sl
                have sw : ∀ w, w ∈ so → WOk n (hist n ks js).rd w := fun w hw => paired_r (G := fun w => WOk n (hist n ks js).rd w) hso hw
                walk_at "zs"
                refine ws_for (β := World3) (S := Unit) (ts := [13] ++ ([14] ++ [15])) (fun _ _ => True) (fun _ => [some (dy ns), some (dy (MR.mk 0)), none, none, some (dy (Tab.mk n ⟨ks⟩)), some (dy (Tp.mk js)), some (dy (T3.mk (hist n ks js).wr (hist n ks js).rd (hist n ks js).la)), some (dy (Tp.mk ps)), some (dy o), some (dy so), none, some (dy n), some (dy (Tp.mk ks)), none, none, none, none, none, none, none]) (fun _ => [cHand]) ?_
                refine wi_list (α := World3) ?_
                walk_at "zs"
                refine ⟨so, rfl, so, rfl, (), trivial, by walk_at "zcut", fun pre2 w post2 s2 e2 hJ2 => ?_, fun s2 hJ2 => ?_⟩
                · have ww := sw w (by rw [e2]; simp)
                  have dd := dok rok ww.f ww.o
                  walk_at "zs"
                  refine u__law_bits (n := n) ?_ rok n8 b1 ww.f ww.o
                  walk_at "zs"
                  · refine we_lcM (β := Int) (γ := Int) [19] (fun d => bit (bitsD (hist n ks js).rd w.a.l w.b.l) d) (fun t ht => ht) (by walk_at "zok") ?_
                    refine wi_range ?_
                    walk_at "zs"
                    refine ⟨_, rfl, by omega, by show ((js.length : Nat) : Int) ≤ _; have := hj.len; omega, rfl, upto js.length, rfl, by rw [upto_len]; have := hj.len; omega, fun y2 hy2 acc2 => ?_, ?_⟩
                    · have by_ := upto_mem.mp hy2
                      walk_at "zs"
                      refine ⟨rfl, ?_⟩
                      refine we_dgetF (β := Int) ?_
                      walk_at "zs"
                      exact ⟨_, dd.get (by omega) (by rw [ho.rl]; exact by_.2), rfl, rfl⟩
                    walk_at "zs"
                    refine bt_f (show _ = false from congrArg (fun b => !b) (decide_eq_true rfl)) ?_
                    walk_at "zs"
                    exact ⟨(), trivial, by walk_at "zcut"⟩
                  all_goals first | exact hk | exact hj | exact ww.f | exact ww.o
                · let J : Env' → Mem → Prop := fun e m => m = [cHand] ∧ ∃ ws : List World3, ws ≠ [] ∧ ws.length ≤ 4 ∧ (∀ w, w ∈ ws → WOk n (hist n ks js).rd w) ∧ Frg e [some (dy ns), some (dy (MR.mk 0)), none, none, some (dy (Tab.mk n ⟨ks⟩)), some (dy (Tp.mk js)), some (dy (T3.mk (hist n ks js).wr (hist n ks js).rd (hist n ks js).la)), some (dy (Tp.mk ps)), none, some (dy ws), none, some (dy n), some (dy (Tp.mk ks)), none, none, none, none, none, none, none]
                  refine ws_seqJ J ?_ fun e m hJ => ?_
                  · walk_at "zs"
                    refine ⟨fun q => ?_, fun q => ?_⟩
                    · obtain ⟨w, rfl⟩ := Option.isSome_iff_exists.mp q
                      obtain ⟨rfl, hn⟩ := os w rfl
                      have wt := wTold_ok n (hist n ks js).rd ps
                      have wd := wid_world wt n8 b1 b3
                      have pt : parts (hist n ks js).rd (hist n ks js).la ps (wTold n (hist n ks js).rd ps).a.l (wTold n (hist n ks js).rd ps).b.l (wTold n (hist n ks js).rd ps).c.l = true := ff.trans (congrArg (fun b => !b) (decide_eq_false hn))
                      rw [dy_some]
                      generalize hw : wTold n (hist n ks js).rd ps = w at *
                      walk_at "zs"
                      · refine bt_f' (show (!_) = false from congrArg (fun b => !b) pt) ?_
                        walk_at "zs"
                        · refine bt_f (show (!_) = false from congrArg (fun b => !b) pt) ?_
                          walk_at "zs"
                          refine we_lst (α := World3) ?_
                          walk_at "zs"
                          refine ⟨[w], rfl, by simp, ?_⟩
                          refine rr_catL (by rw [← sl]; simp) ?_
                          walk_at "zs"
                          refine ⟨rfl, so ++ [w], by simp, by rw [List.length_append, ← sl]; simp, fun w2 hw2 => ?_, by walk_at "zok"⟩
                          rcases List.mem_append.mp hw2 with z | z
                          · exact sw w2 z
                          · have : w2 = w := by simpa using z
                            rw [this]; exact wt
                        all_goals first | exact hk | exact hj | exact hp | exact wt
                      all_goals first | exact rok | exact n8 | exact b1 | exact b2 | exact p8 | exact pw | exact lo | exact ⟨wt, Th.wid_mono (by decide) _ wd⟩
                    · walk_at "zs"
                      refine ⟨rfl, so, (fun z => by rw [z] at sl; cases sl), by rw [← sl]; decide, sw, by walk_at "zok"⟩
                  · obtain ⟨rfl, ws, w0, w4, wok, hf⟩ := hJ
                    refine ws_frg hf ?_
                    refine ws_for (β := Int) (S := Unit) (ts := [10]) (fun _ _ => True) (fun _ => [some (dy ns), some (dy (MR.mk 0)), none, none, some (dy (Tab.mk n ⟨ks⟩)), some (dy (Tp.mk js)), some (dy (T3.mk (hist n ks js).wr (hist n ks js).rd (hist n ks js).la)), some (dy (Tp.mk ps)), none, some (dy ws), none, some (dy n), some (dy (Tp.mk ks)), none, none, none, none, none, none, none]) (fun _ => [cHand]) ?_
                    refine wi_range ?_
                    walk_at "zs"
                    refine ⟨4, rfl, by decide, by decide, upto 4, rfl, (), trivial, by walk_at "zcut", fun pre2 y2 post2 s2 e2 hJ2 => ?_, fun s2 hJ2 => ?_⟩
                    · walk_at "zs"
                      · intro w hw
                        have ww := wok w hw
                        have wd := wid_world ww n8 b1 b3
                        walk_at "zs"
                        refine ws_for (β := Int) (S := Th) (ts := [18]) (fun pre3 s3 => s3.wid (490 + pre3.length)) (fun s3 => [some (dy ns), some (dy (MR.mk 0)), none, none, some (dy (Tab.mk n ⟨ks⟩)), some (dy (Tp.mk js)), some (dy (T3.mk (hist n ks js).wr (hist n ks js).rd (hist n ks js).la)), some (dy (Tp.mk ps)), none, some (dy ws), none, some (dy n), some (dy (Tp.mk ks)), none, none, none, none, some (dy s3), none, none]) (fun _ => [cHand]) ?_
                        refine wi_range ?_
                        walk_at "zs"
                        · intro q q0 q1
                          walk_at "zs"
                          refine ⟨q, rfl, q0, by omega, upto q.toNat, rfl, IsTh.to w, wd, by walk_at "zcut", fun pre3 y3 post3 s3 e3 hJ3 => ?_, fun s3 hJ3 => ?_⟩
                          · have el := congrArg List.length e3
                            rw [upto_len, List.length_append, List.length_cons] at el
                            walk_at "zs"
                            intro od ho2
                            walk_at "zs"
                            refine u__law_bent (B := 490 + pre3.length) (fun y hy => ?_) (by omega) (by omega) hJ3 (Th.wid_mono (by omega) od ho2)
                            walk_at "zs"
                            exact ⟨y, by rw [List.length_append]; exact hy, by walk_at "zcut"⟩
                          · rw [upto_len] at hJ3
                            have sl3 : slim s3 := Th.wid_mono (by omega) s3 hJ3
                            walk_at "zs"
                            · refine bt_f (show _ = false from congrArg (fun b => !b) (decide_eq_true rfl)) ?_
                              walk_at "zs"
                              exact ⟨(), trivial, by walk_at "zcut"⟩
                            all_goals first | exact hk | exact hj | exact hp | exact rok | exact n8 | exact b1 | exact b2 | exact p8 | exact pw | exact lo | exact sl3
                        · decide
                        · decide
                      · exact w0
                      · omega
                    · exact ⟨(), trivial, by walk_at "zcut"⟩
              all_goals first | exact hk | exact hj | exact hp | assumption
            all_goals first | assumption | exact wb.1 | exact wb.2
          all_goals first | (have := hk.k1; omega) | (have := hk.k40; omega) | omega
        all_goals omega
      all_goals decide
    · walk_at "zs"
      exact hP

theorem u_law {M : Mem} {P : Dy → Mem → Prop} {ns : List Int} (h : P (dy true) M) (h1 : ns.length ≤ 63) : sp_law [dy ns] M P := ⟨ns, rfl, h1, h⟩
local macro_rules | `(tactic| walk_at "zu") => `(tactic| first
  | refine u_is_integer ?_
  | refine u_is_integer_th ?_
  | refine u_is_number_below ?_ ?_
  | refine u_is_number_below_th ?_
  | refine u_is_bits ?_
  | refine u_is_lot ?_ ?_
  | refine u_is_lot_of_cells ?_ ?_ ?_
  | refine u_is_kind ?_ ?_
  | refine u_is_journal ?_ ?_
  | refine u_check_journal ?_ ?_
  | refine u_fresh ?_ ?_ ?_
  | refine u_last_behind ?_ ?_ ?_
  | refine u_last_versions ?_ ?_ ?_
  | refine u_rows_behind ?_ ?_ ?_
  | refine u_source_rows ?_ ?_ ?_
  | refine u_is_version ?_ ?_ ?_ ?_ ?_
  | refine u_is_plates ?_ ?_ ?_ ?_
  | refine u_check_plates ?_ ?_ ?_ ?_
  | refine u_derived_marks ?_ ?_ ?_ ?_
  | refine u__law_is_int ?_ ?_ ?_
  | refine u__law_is_int_th ?_
  | refine u__law_flag ?_
  | refine u__law_history ?_ ?_ ?_
  | refine u__law_closure ?_ ?_ ?_ ?_
  | refine u__law_lost ?_ ?_ ?_ ?_ ?_
  | refine u__law_with ?_ ?_ ?_
  | refine u__law_draw ?_ ?_ ?_
  | refine u__law_any ?_ ?_ ?_
  | refine u__law_any_th ?_ ?_ ?_
  | refine u__law_kinds ?_ ?_ ?_ ?_ ?_
  | refine u__law_table ?_ ?_ ?_
  | refine u__law_journal ?_ ?_ ?_ ?_ ?_
  | refine u__law_versions ?_ ?_ ?_ ?_ ?_
  | refine u__law_plates ?_ ?_ ?_ ?_ ?_ ?_ ?_ ?_
  | refine u_Table_init ?_ ?_
  | refine u_is_functions ?_ ?_ ?_
  | refine u_is_functions_ty ?_ ?_ ?_ ?_
  | refine u_is_bits_ty ?_ ?_ ?_
  | refine u_bits_by_version ?_ ?_ ?_ ?_ ?_
  | refine u_bits_of ?_ ?_ ?_ ?_ ?_
  | refine u_is_parting ?_ ?_ ?_ ?_
  | refine u_is_parting_ty ?_ ?_ ?_ ?_ ?_
  | refine u_parting ?_ ?_ ?_ ?_
  | refine u__law_deep ?_ ?_ ?_
  | refine u__law_odd ?_
  | refine u__law_bits ?_ ?_ ?_ ?_ ?_ ?_
  | refine u__law_are_bits ?_ ?_
  | refine u__law_has_form ?_ ?_ ?_
  | refine u__law_parts ?_ ?_ ?_ ?_ ?_ ?_ ?_ ?_ ?_
  | refine u__law_drawn ?_ ?_ ?_ ?_ ?_
  | refine u__law_bent ?_ ?_ ?_ ?_ ?_
  | refine u__law_any_w ?_ ?_ ?_
  | refine u__law_parts_ty ?_ ?_ ?_ ?_ ?_ ?_ ?_ ?_ ?_
  | refine u_law ?_ ?_)
local macro_rules | `(tactic| walk_at "zs1") => `(tactic| first
  | walk_at "zq"
  | walk_at "zu"
  | walk_at "zb")
local macro_rules | `(tactic| walk_at "zs") => `(tactic| repeat walk_at "zs1")
end
end K03
end
section
set_option Elab.async false
set_option linter.all false
set_option maxRecDepth 100000
set_option maxHeartbeats 0
namespace K03
open PySem PySem.Spec PyProof.Rows L2 Zq K02
open C8 (Cal Mak)
structure Got (K : PySem.W.Frag) (mg : Str → Option Value) (x : Str) (st : Stmt) : Prop where
  ex : ∃ (f : Addr) (fd : FuncData), Fun K x x st f fd ∧ mg x = some (.ref f) ∧ PySem.W.keepIn K (.ref f) = true
theorem got {K : PySem.W.Frag} {h : Heap} {mg : Str → Option Value} {x : Str} {st : Stmt} {f : Addr} {oc : Value} {od an : Option Addr} {sl : Array (Option Value)} {kV dc pm cd ct : Value} (X : K.In h) (G : h.Ns mainGlobals mg)
    (a : PySem.W.nsIn K mainGlobals x = some (some (.ref f))) (l : K.lookup f = some ⟨oc, od, .func (PySem.W.fnOf x x (defArgs st) (defBody st) (defScope st) .none kV dc pm an cd ct), sl⟩) (c : PySem.W.codeIn K cd x = true) (k : PySem.W.keepIn K (.ref f) = true) : Got K mg x st :=
  ⟨f, _, fun_mk l c k, PySem.W.mg_of X G a, k⟩
structure GotD (K : PySem.W.Frag) (mg : Str → Option Value) (x : Str) (st : Stmt) : Prop where
  ex : ∃ (f : Addr) (fd : FuncData), FunD K x x (defArgs st) (defBody st) (defScope st) [.int 0] [] f fd ∧ mg x = some (.ref f) ∧ PySem.W.keepIn K (.ref f) = true
theorem gotD {K : PySem.W.Frag} {h : Heap} {mg : Str → Option Value} {x : Str} {st : Stmt} {f Tt : Addr} {oc oc' : Value} {od od' an : Option Addr} {sl sl' : Array (Option Value)} {n : Nat} {tk : Tok} {kV dc pm cd ct : Value} (X : K.In h) (G : h.Ns mainGlobals mg)
    (a : PySem.W.nsIn K mainGlobals x = some (some (.ref f))) (l : K.lookup f = some ⟨oc, od, .func (PySem.W.fnOf x x (defArgs st) (defBody st) (defScope st) (.ref Tt) kV dc pm an cd ct), sl⟩) (lT : K.lookup Tt = some ⟨oc', od', .seq #[.int 0 tk] n, sl'⟩) (c : PySem.W.codeIn K cd x = true) (k : PySem.W.keepIn K (.ref f) = true) : GotD K mg x st :=
  ⟨f, _, ⟨⟨oc, od, _, kV, dc, pm, an, cd, ct, sl, rfl, l, c, .inr ⟨(by intro z; cases z), Tt, _, [.int 0 tk], n, rfl, lT, rfl, .cons ⟨tk, rfl⟩ .nil⟩, .inl rfl⟩, k⟩, PySem.W.mg_of X G a, k⟩
abbrev kOf {K : PySem.W.Frag} {h : Heap} (_ : K.In h) : PySem.W.Frag := K
def spTop (K : PySem.W.Frag) : Sp := fun vs H Q _ => ∃ (a : Addr) (ns : List Int), vs = [.ref a] ∧ SqL K H a (ns.map V.int) ∧ ns.length ≤ 63 ∧ ∀ H', Q (.bl true) H'
theorem top_sp {K : PySem.W.Frag} {C : Addr} (vs : List V) (H : Hp) (Q : VK) (E : XK) (h : spTop K vs H Q E) : spOf ⟨K, fun _ => C⟩ 1 0 sp_law vs H Q E := by
  obtain ⟨a, ns, rfl, hS, hl, q⟩ := h
  refine ⟨[], H, [dy ns], [], fun x _ => x = dy true, rfl, rfl, ⟨List.nodup_nil, rfl, Evl.Ex.refl _, (fun a h => by cases h), fun k d h => by simp at h⟩, .cons ⟨a, _, rfl, hS, Irep ns⟩ .nil, ⟨ns, rfl, hl, rfl⟩, fun v w' x M' _ _ hr hx => ?_⟩
  subst hx
  obtain rfl : v = .bl true := hr
  exact q _
theorem whole {P : Program} {w : World} {K : PySem.W.Frag} {mg : Str → Option Value} {base : Heap} {C fI f : Addr} {fdI fd : FuncData} (G_is_integer : Got K mg "is_integer" s_is_integer) (G_is_number_below : Got K mg "is_number_below" s_is_number_below) (G_is_lot : Got K mg "is_lot" s_is_lot) (G_is_lot_of_cells : Got K mg "is_lot_of_cells" s_is_lot_of_cells) (G_is_kind : Got K mg "is_kind" s_is_kind) (G_is_journal : Got K mg "is_journal" s_is_journal) (G_check_journal : Got K mg "check_journal" s_check_journal) (G_fresh : Got K mg "fresh" s_fresh) (G_last_versions : Got K mg "last_versions" s_last_versions) (G_source_rows : Got K mg "source_rows" s_source_rows) (G_is_plates : Got K mg "is_plates" s_is_plates) (G_is_version : Got K mg "is_version" s_is_version) (G_check_plates : Got K mg "check_plates" s_check_plates) (G_last_behind : Got K mg "last_behind" s_last_behind) (G_rows_behind : Got K mg "rows_behind" s_rows_behind) (G_derived_marks : GotD K mg "derived_marks" s_derived_marks) (G__law_hand : Got K mg "_law_hand" s__law_hand) (G__law_draw : Got K mg "_law_draw" s__law_draw) (G__law_any : Got K mg "_law_any" s__law_any) (G__law_is_int : Got K mg "_law_is_int" s__law_is_int) (G__law_flag : Got K mg "_law_flag" s__law_flag) (G__law_kinds : Got K mg "_law_kinds" s__law_kinds) (G__law_history : Got K mg "_law_history" s__law_history) (G__law_closure : Got K mg "_law_closure" s__law_closure) (G__law_lost : Got K mg "_law_lost" s__law_lost) (G__law_with : Got K mg "_law_with" s__law_with) (G__law_table : Got K mg "_law_table" s__law_table) (G__law_journal : Got K mg "_law_journal" s__law_journal) (G__law_versions : Got K mg "_law_versions" s__law_versions) (G__law_plates : Got K mg "_law_plates" s__law_plates) (G_is_bits : Got K mg "is_bits" s_is_bits) (G_is_functions : Got K mg "is_functions" s_is_functions) (G_bits_by_version : Got K mg "bits_by_version" s_bits_by_version) (G_bits_of : Got K mg "bits_of" s_bits_of) (G_is_parting : Got K mg "is_parting" s_is_parting) (G_parting : Got K mg "parting" s_parting) (G__law_deep : Got K mg "_law_deep" s__law_deep) (G__law_odd : Got K mg "_law_odd" s__law_odd) (G__law_bits : Got K mg "_law_bits" s__law_bits) (G__law_are_bits : Got K mg "_law_are_bits" s__law_are_bits) (G__law_has_form : Got K mg "_law_has_form" s__law_has_form) (G__law_parts : Got K mg "_law_parts" s__law_parts) (G__law_drawn : Got K mg "_law_drawn" s__law_drawn) (G__law_bent : Got K mg "_law_bent" s__law_bent) (T : Tb mg) (cl : Cls K C) (nc : PySem.W.findIn K (.ref C) "cells" = some none) (nk : PySem.W.findIn K (.ref C) "kinds" = some none) (ha : PySem.W.findIn K (.ref C) "__class__" = some (some (.builtin "object.__class__"))) (hn : PySem.W.specialIn K (.builtin "object.__class__") "__get__" = some (some (.builtin "getset_descriptor.__get__"))) (htk : PySem.W.takesIn K (.builtin "object.__class__") = some true) (hm : PySem.W.mroIn K C (.type "object") = some true) (ki : PySem.W.kitOne K (.ref C) (.type "int") = some false) (kb : PySem.W.kitOne K (.ref C) (.type "bool") = some false) (kt : PySem.W.kitOne K (.ref C) (.type "tuple") = some false) (ks : PySem.W.kitOne K (.ref C) (.type "str") = some false) (MK : Mk K C fI) (FI : Fun K "__init__" "Table.__init__" s_Table_init fI fdI) (mC : mg "Table" = some (.ref C)) (F : Fun K "law" "law" s_law f fd) :
    FnOk P w K mg base CX0 9 f fd ["_law_script"] (spTop K) := by
  have X : Tx ⟨K, fun _ => C⟩ := ⟨cl, nc, nk, ⟨cl, ha, hn, htk, hm, ki, kb, kt, ks⟩⟩
  obtain ⟨f_is_integer, fd_is_integer, F_is_integer, m_is_integer, k_is_integer⟩ := G_is_integer
  have O_is_integer : FnOk P w K mg base CX0 1 f_is_integer fd_is_integer ["thing"] (spOf ⟨K, fun _ => C⟩ 1 0 sp_is_integer) := ok_is_integer (c := ⟨K, fun _ => C⟩) F_is_integer T X 
  have g_is_integer : Cal P w K mg base 1 "is_integer" (spOf ⟨K, fun _ => C⟩ 1 0 sp_is_integer) [] := ⟨f_is_integer, fd_is_integer, ["thing"], [], O_is_integer, m_is_integer, k_is_integer, F_is_integer.binds (ps := ["thing"]) (fun _ _ _ _ _ _ us hl => match us, hl with | [_], _ => rfl), .nil⟩
  obtain ⟨f_fresh, fd_fresh, F_fresh, m_fresh, k_fresh⟩ := G_fresh
  have O_fresh : FnOk P w K mg base CX0 1 f_fresh fd_fresh ["table"] (spOf ⟨K, fun _ => C⟩ 1 0 sp_fresh) := ok_fresh (c := ⟨K, fun _ => C⟩) F_fresh T X 
  have g_fresh : Cal P w K mg base 1 "fresh" (spOf ⟨K, fun _ => C⟩ 1 0 sp_fresh) [] := ⟨f_fresh, fd_fresh, ["table"], [], O_fresh, m_fresh, k_fresh, F_fresh.binds (ps := ["table"]) (fun _ _ _ _ _ _ us hl => match us, hl with | [_], _ => rfl), .nil⟩
  obtain ⟨f_last_behind, fd_last_behind, F_last_behind, m_last_behind, k_last_behind⟩ := G_last_behind
  have O_last_behind : FnOk P w K mg base CX0 1 f_last_behind fd_last_behind ["table", "first", "ahead", "journal"] (spOf ⟨K, fun _ => C⟩ 4 0 sp_last_behind) := ok_last_behind (c := ⟨K, fun _ => C⟩) F_last_behind T X 
  have g_last_behind : Cal P w K mg base 1 "last_behind" (spOf ⟨K, fun _ => C⟩ 4 0 sp_last_behind) [] := ⟨f_last_behind, fd_last_behind, ["table", "first", "ahead", "journal"], [], O_last_behind, m_last_behind, k_last_behind, F_last_behind.binds (ps := ["table", "first", "ahead", "journal"]) (fun _ _ _ _ _ _ us hl => match us, hl with | [_, _, _, _], _ => rfl), .nil⟩
  obtain ⟨f_rows_behind, fd_rows_behind, F_rows_behind, m_rows_behind, k_rows_behind⟩ := G_rows_behind
  have O_rows_behind : FnOk P w K mg base CX0 1 f_rows_behind fd_rows_behind ["table", "first", "ahead", "journal"] (spOf ⟨K, fun _ => C⟩ 4 0 sp_rows_behind) := ok_rows_behind (c := ⟨K, fun _ => C⟩) F_rows_behind T X 
  have g_rows_behind : Cal P w K mg base 1 "rows_behind" (spOf ⟨K, fun _ => C⟩ 4 0 sp_rows_behind) [] := ⟨f_rows_behind, fd_rows_behind, ["table", "first", "ahead", "journal"], [], O_rows_behind, m_rows_behind, k_rows_behind, F_rows_behind.binds (ps := ["table", "first", "ahead", "journal"]) (fun _ _ _ _ _ _ us hl => match us, hl with | [_, _, _, _], _ => rfl), .nil⟩
  obtain ⟨f_derived_marks, fd_derived_marks, F_derived_marks, m_derived_marks, k_derived_marks⟩ := G_derived_marks
  have O_derived_marks : FnOk P w K mg base CX0 1 f_derived_marks fd_derived_marks ["rows", "plates", "first"] (spOf ⟨K, fun _ => C⟩ 3 0 sp_derived_marks) := ok_derived_marks (c := ⟨K, fun _ => C⟩) F_derived_marks T X 
  have g_derived_marks : Cal P w K mg base 1 "derived_marks" (spOf ⟨K, fun _ => C⟩ 3 0 sp_derived_marks) [] := by
    obtain ⟨ds, dv, b⟩ := F_derived_marks.binds1 (ps := ["rows", "plates", "first"]) 3 1 (by intro z; cases z) rfl (fun _ _ _ _ _ _ _ us its hl hi => match us, hl, its, hi with | [_, _, _], _, [_], _ => ⟨_, rfl, rfl⟩)
    exact ⟨f_derived_marks, fd_derived_marks, ["rows", "plates", "first"], ds, O_derived_marks, m_derived_marks, k_derived_marks, b, dv⟩
  have gD_derived_marks : Cal P w K mg base 1 "derived_marks" (spOf ⟨K, fun _ => C⟩ 3 0 sp_derived_marks) [.int 0] := by
    obtain ⟨ds, dv, b⟩ := F_derived_marks.binds1 (ps := ["rows", "plates", "first"]) 2 0 (by intro z; cases z) rfl (fun _ _ _ _ _ _ _ us its hl hi => match us, hl, its, hi with | [_, _], _, [_], _ => ⟨_, rfl, rfl⟩)
    exact ⟨f_derived_marks, fd_derived_marks, ["rows", "plates", "first"], ds, O_derived_marks, m_derived_marks, k_derived_marks, b, dv⟩
  obtain ⟨f__law_hand, fd__law_hand, F__law_hand, m__law_hand, k__law_hand⟩ := G__law_hand
  have O__law_hand : FnOk P w K mg base CX0 1 f__law_hand fd__law_hand ["_law_script"] (spHand ⟨K, fun _ => C⟩) := ok__law_hand (c := ⟨K, fun _ => C⟩) F__law_hand T X 
  have g__law_hand : Cal P w K mg base 1 "_law_hand" (spHand ⟨K, fun _ => C⟩) [] := ⟨f__law_hand, fd__law_hand, ["_law_script"], [], O__law_hand, m__law_hand, k__law_hand, F__law_hand.binds (ps := ["_law_script"]) (fun _ _ _ _ _ _ us hl => match us, hl with | [_], _ => rfl), .nil⟩
  obtain ⟨f__law_draw, fd__law_draw, F__law_draw, m__law_draw, k__law_draw⟩ := G__law_draw
  have O__law_draw : FnOk P w K mg base CX0 1 f__law_draw fd__law_draw ["_law_hand_here", "_law_many"] (spOf ⟨K, fun _ => C⟩ 2 1 sp__law_draw) := ok__law_draw (c := ⟨K, fun _ => C⟩) F__law_draw T X 
  have g__law_draw : Cal P w K mg base 1 "_law_draw" (spOf ⟨K, fun _ => C⟩ 2 1 sp__law_draw) [] := ⟨f__law_draw, fd__law_draw, ["_law_hand_here", "_law_many"], [], O__law_draw, m__law_draw, k__law_draw, F__law_draw.binds (ps := ["_law_hand_here", "_law_many"]) (fun _ _ _ _ _ _ us hl => match us, hl with | [_, _], _ => rfl), .nil⟩
  obtain ⟨f__law_is_int, fd__law_is_int, F__law_is_int, m__law_is_int, k__law_is_int⟩ := G__law_is_int
  have O__law_is_int : FnOk P w K mg base CX0 1 f__law_is_int fd__law_is_int ["_law_thing", "_law_least", "_law_most"] (spOf ⟨K, fun _ => C⟩ 3 0 sp__law_is_int) := ok__law_is_int (c := ⟨K, fun _ => C⟩) F__law_is_int T X 
  have g__law_is_int : Cal P w K mg base 1 "_law_is_int" (spOf ⟨K, fun _ => C⟩ 3 0 sp__law_is_int) [] := ⟨f__law_is_int, fd__law_is_int, ["_law_thing", "_law_least", "_law_most"], [], O__law_is_int, m__law_is_int, k__law_is_int, F__law_is_int.binds (ps := ["_law_thing", "_law_least", "_law_most"]) (fun _ _ _ _ _ _ us hl => match us, hl with | [_, _, _], _ => rfl), .nil⟩
  obtain ⟨f__law_flag, fd__law_flag, F__law_flag, m__law_flag, k__law_flag⟩ := G__law_flag
  have O__law_flag : FnOk P w K mg base CX0 1 f__law_flag fd__law_flag ["_law_told", "_law_due"] (spOf ⟨K, fun _ => C⟩ 2 0 sp__law_flag) := ok__law_flag (c := ⟨K, fun _ => C⟩) F__law_flag T X 
  have g__law_flag : Cal P w K mg base 1 "_law_flag" (spOf ⟨K, fun _ => C⟩ 2 0 sp__law_flag) [] := ⟨f__law_flag, fd__law_flag, ["_law_told", "_law_due"], [], O__law_flag, m__law_flag, k__law_flag, F__law_flag.binds (ps := ["_law_told", "_law_due"]) (fun _ _ _ _ _ _ us hl => match us, hl with | [_, _], _ => rfl), .nil⟩
  obtain ⟨f__law_history, fd__law_history, F__law_history, m__law_history, k__law_history⟩ := G__law_history
  have O__law_history : FnOk P w K mg base CX0 1 f__law_history fd__law_history ["_law_cells", "_law_kinds_here", "_law_journal_here"] (spOf ⟨K, fun _ => C⟩ 3 0 sp__law_history) := ok__law_history (c := ⟨K, fun _ => C⟩) F__law_history T X 
  have g__law_history : Cal P w K mg base 1 "_law_history" (spOf ⟨K, fun _ => C⟩ 3 0 sp__law_history) [] := ⟨f__law_history, fd__law_history, ["_law_cells", "_law_kinds_here", "_law_journal_here"], [], O__law_history, m__law_history, k__law_history, F__law_history.binds (ps := ["_law_cells", "_law_kinds_here", "_law_journal_here"]) (fun _ _ _ _ _ _ us hl => match us, hl with | [_, _, _], _ => rfl), .nil⟩
  obtain ⟨f__law_closure, fd__law_closure, F__law_closure, m__law_closure, k__law_closure⟩ := G__law_closure
  have O__law_closure : FnOk P w K mg base CX0 1 f__law_closure fd__law_closure ["_law_read", "_law_plates_here"] (spOf ⟨K, fun _ => C⟩ 2 0 sp__law_closure) := ok__law_closure (c := ⟨K, fun _ => C⟩) F__law_closure T X 
  have g__law_closure : Cal P w K mg base 1 "_law_closure" (spOf ⟨K, fun _ => C⟩ 2 0 sp__law_closure) [] := ⟨f__law_closure, fd__law_closure, ["_law_read", "_law_plates_here"], [], O__law_closure, m__law_closure, k__law_closure, F__law_closure.binds (ps := ["_law_read", "_law_plates_here"]) (fun _ _ _ _ _ _ us hl => match us, hl with | [_, _], _ => rfl), .nil⟩
  obtain ⟨f__law_with, fd__law_with, F__law_with, m__law_with, k__law_with⟩ := G__law_with
  have O__law_with : FnOk P w K mg base CX0 1 f__law_with fd__law_with ["_law_history_here", "_law_plates_here", "_law_cells"] (spOf ⟨K, fun _ => C⟩ 3 0 sp__law_with) := ok__law_with (c := ⟨K, fun _ => C⟩) F__law_with T X 
  have g__law_with : Cal P w K mg base 1 "_law_with" (spOf ⟨K, fun _ => C⟩ 3 0 sp__law_with) [] := ⟨f__law_with, fd__law_with, ["_law_history_here", "_law_plates_here", "_law_cells"], [], O__law_with, m__law_with, k__law_with, F__law_with.binds (ps := ["_law_history_here", "_law_plates_here", "_law_cells"]) (fun _ _ _ _ _ _ us hl => match us, hl with | [_, _, _], _ => rfl), .nil⟩
  obtain ⟨f__law_versions, fd__law_versions, F__law_versions, m__law_versions, k__law_versions⟩ := G__law_versions
  have O__law_versions : FnOk P w K mg base CX0 1 f__law_versions fd__law_versions ["_law_cells", "_law_written"] (spOf ⟨K, fun _ => C⟩ 2 0 sp__law_versions) := ok__law_versions (c := ⟨K, fun _ => C⟩) F__law_versions T X 
  have g__law_versions : Cal P w K mg base 1 "_law_versions" (spOf ⟨K, fun _ => C⟩ 2 0 sp__law_versions) [] := ⟨f__law_versions, fd__law_versions, ["_law_cells", "_law_written"], [], O__law_versions, m__law_versions, k__law_versions, F__law_versions.binds (ps := ["_law_cells", "_law_written"]) (fun _ _ _ _ _ _ us hl => match us, hl with | [_, _], _ => rfl), .nil⟩
  obtain ⟨f__law_deep, fd__law_deep, F__law_deep, m__law_deep, k__law_deep⟩ := G__law_deep
  have O__law_deep : FnOk P w K mg base CX0 1 f__law_deep fd__law_deep ["_law_many"] (spOf ⟨K, fun _ => C⟩ 1 0 sp__law_deep) := ok__law_deep (c := ⟨K, fun _ => C⟩) F__law_deep T X 
  have g__law_deep : Cal P w K mg base 1 "_law_deep" (spOf ⟨K, fun _ => C⟩ 1 0 sp__law_deep) [] := ⟨f__law_deep, fd__law_deep, ["_law_many"], [], O__law_deep, m__law_deep, k__law_deep, F__law_deep.binds (ps := ["_law_many"]) (fun _ _ _ _ _ _ us hl => match us, hl with | [_], _ => rfl), .nil⟩
  obtain ⟨f__law_bits, fd__law_bits, F__law_bits, m__law_bits, k__law_bits⟩ := G__law_bits
  have O__law_bits : FnOk P w K mg base CX0 1 f__law_bits fd__law_bits ["_law_history_here", "_law_functions", "_law_begin"] (spOf ⟨K, fun _ => C⟩ 3 0 sp__law_bits) := ok__law_bits (c := ⟨K, fun _ => C⟩) F__law_bits T X 
  have g__law_bits : Cal P w K mg base 1 "_law_bits" (spOf ⟨K, fun _ => C⟩ 3 0 sp__law_bits) [] := ⟨f__law_bits, fd__law_bits, ["_law_history_here", "_law_functions", "_law_begin"], [], O__law_bits, m__law_bits, k__law_bits, F__law_bits.binds (ps := ["_law_history_here", "_law_functions", "_law_begin"]) (fun _ _ _ _ _ _ us hl => match us, hl with | [_, _, _], _ => rfl), .nil⟩
  obtain ⟨f_is_number_below, fd_is_number_below, F_is_number_below, m_is_number_below, k_is_number_below⟩ := G_is_number_below
  have O_is_number_below : FnOk P w K mg base CX0 2 f_is_number_below fd_is_number_below ["end", "thing"] (spOf ⟨K, fun _ => C⟩ 2 0 sp_is_number_below) := ok_is_number_below (c := ⟨K, fun _ => C⟩) F_is_number_below T X g_is_integer
  have g_is_number_below : Cal P w K mg base 2 "is_number_below" (spOf ⟨K, fun _ => C⟩ 2 0 sp_is_number_below) [] := ⟨f_is_number_below, fd_is_number_below, ["end", "thing"], [], O_is_number_below, m_is_number_below, k_is_number_below, F_is_number_below.binds (ps := ["end", "thing"]) (fun _ _ _ _ _ _ us hl => match us, hl with | [_, _], _ => rfl), .nil⟩
  obtain ⟨f_is_lot, fd_is_lot, F_is_lot, m_is_lot, k_is_lot⟩ := G_is_lot
  have O_is_lot : FnOk P w K mg base CX0 2 f_is_lot fd_is_lot ["thing"] (spOf ⟨K, fun _ => C⟩ 1 0 sp_is_lot) := ok_is_lot (c := ⟨K, fun _ => C⟩) F_is_lot T X g_is_integer
  have g_is_lot : Cal P w K mg base 2 "is_lot" (spOf ⟨K, fun _ => C⟩ 1 0 sp_is_lot) [] := ⟨f_is_lot, fd_is_lot, ["thing"], [], O_is_lot, m_is_lot, k_is_lot, F_is_lot.binds (ps := ["thing"]) (fun _ _ _ _ _ _ us hl => match us, hl with | [_], _ => rfl), .nil⟩
  obtain ⟨f_last_versions, fd_last_versions, F_last_versions, m_last_versions, k_last_versions⟩ := G_last_versions
  have O_last_versions : FnOk P w K mg base CX0 2 f_last_versions fd_last_versions ["table", "journal"] (spOf ⟨K, fun _ => C⟩ 2 0 sp_last_versions) := ok_last_versions (c := ⟨K, fun _ => C⟩) F_last_versions T X g_last_behind g_fresh
  have g_last_versions : Cal P w K mg base 2 "last_versions" (spOf ⟨K, fun _ => C⟩ 2 0 sp_last_versions) [] := ⟨f_last_versions, fd_last_versions, ["table", "journal"], [], O_last_versions, m_last_versions, k_last_versions, F_last_versions.binds (ps := ["table", "journal"]) (fun _ _ _ _ _ _ us hl => match us, hl with | [_, _], _ => rfl), .nil⟩
  obtain ⟨f_source_rows, fd_source_rows, F_source_rows, m_source_rows, k_source_rows⟩ := G_source_rows
  have O_source_rows : FnOk P w K mg base CX0 2 f_source_rows fd_source_rows ["table", "journal"] (spOf ⟨K, fun _ => C⟩ 2 0 sp_source_rows) := ok_source_rows (c := ⟨K, fun _ => C⟩) F_source_rows T X g_rows_behind g_fresh
  have g_source_rows : Cal P w K mg base 2 "source_rows" (spOf ⟨K, fun _ => C⟩ 2 0 sp_source_rows) [] := ⟨f_source_rows, fd_source_rows, ["table", "journal"], [], O_source_rows, m_source_rows, k_source_rows, F_source_rows.binds (ps := ["table", "journal"]) (fun _ _ _ _ _ _ us hl => match us, hl with | [_, _], _ => rfl), .nil⟩
  obtain ⟨f__law_any, fd__law_any, F__law_any, m__law_any, k__law_any⟩ := G__law_any
  have O__law_any : FnOk P w K mg base CX0 2 f__law_any fd__law_any ["_law_hand_here", "_law_some"] (spOf ⟨K, fun _ => C⟩ 2 1 sp__law_any) := ok__law_any (c := ⟨K, fun _ => C⟩) F__law_any T X g__law_draw
  have g__law_any : Cal P w K mg base 2 "_law_any" (spOf ⟨K, fun _ => C⟩ 2 1 sp__law_any) [] := ⟨f__law_any, fd__law_any, ["_law_hand_here", "_law_some"], [], O__law_any, m__law_any, k__law_any, F__law_any.binds (ps := ["_law_hand_here", "_law_some"]) (fun _ _ _ _ _ _ us hl => match us, hl with | [_, _], _ => rfl), .nil⟩
  obtain ⟨f__law_kinds, fd__law_kinds, F__law_kinds, m__law_kinds, k__law_kinds⟩ := G__law_kinds
  have O__law_kinds : FnOk P w K mg base CX0 2 f__law_kinds fd__law_kinds ["_law_hand_here", "_law_cells", "_law_most", "_law_reads"] (spOf ⟨K, fun _ => C⟩ 4 1 sp__law_kinds) := ok__law_kinds (c := ⟨K, fun _ => C⟩) F__law_kinds T X g__law_draw
  have g__law_kinds : Cal P w K mg base 2 "_law_kinds" (spOf ⟨K, fun _ => C⟩ 4 1 sp__law_kinds) [] := ⟨f__law_kinds, fd__law_kinds, ["_law_hand_here", "_law_cells", "_law_most", "_law_reads"], [], O__law_kinds, m__law_kinds, k__law_kinds, F__law_kinds.binds (ps := ["_law_hand_here", "_law_cells", "_law_most", "_law_reads"]) (fun _ _ _ _ _ _ us hl => match us, hl with | [_, _, _, _], _ => rfl), .nil⟩
  obtain ⟨f__law_lost, fd__law_lost, F__law_lost, m__law_lost, k__law_lost⟩ := G__law_lost
  have O__law_lost : FnOk P w K mg base CX0 2 f__law_lost fd__law_lost ["_law_history_here", "_law_plates_here"] (spOf ⟨K, fun _ => C⟩ 2 0 sp__law_lost) := ok__law_lost (c := ⟨K, fun _ => C⟩) F__law_lost T X g__law_closure
  have g__law_lost : Cal P w K mg base 2 "_law_lost" (spOf ⟨K, fun _ => C⟩ 2 0 sp__law_lost) [] := ⟨f__law_lost, fd__law_lost, ["_law_history_here", "_law_plates_here"], [], O__law_lost, m__law_lost, k__law_lost, F__law_lost.binds (ps := ["_law_history_here", "_law_plates_here"]) (fun _ _ _ _ _ _ us hl => match us, hl with | [_, _], _ => rfl), .nil⟩
  obtain ⟨f__law_journal, fd__law_journal, F__law_journal, m__law_journal, k__law_journal⟩ := G__law_journal
  have O__law_journal : FnOk P w K mg base CX0 2 f__law_journal fd__law_journal ["_law_hand_here", "_law_kinds_here", "_law_most"] (spOf ⟨K, fun _ => C⟩ 3 1 sp__law_journal) := ok__law_journal (c := ⟨K, fun _ => C⟩) F__law_journal T X g__law_draw
  have g__law_journal : Cal P w K mg base 2 "_law_journal" (spOf ⟨K, fun _ => C⟩ 3 1 sp__law_journal) [] := ⟨f__law_journal, fd__law_journal, ["_law_hand_here", "_law_kinds_here", "_law_most"], [], O__law_journal, m__law_journal, k__law_journal, F__law_journal.binds (ps := ["_law_hand_here", "_law_kinds_here", "_law_most"]) (fun _ _ _ _ _ _ us hl => match us, hl with | [_, _, _], _ => rfl), .nil⟩
  obtain ⟨f__law_are_bits, fd__law_are_bits, F__law_are_bits, m__law_are_bits, k__law_are_bits⟩ := G__law_are_bits
  have O__law_are_bits : FnOk P w K mg base CX0 2 f__law_are_bits fd__law_are_bits ["_law_thing", "_law_many"] (spOf ⟨K, fun _ => C⟩ 2 0 sp__law_are_bits) := ok__law_are_bits (c := ⟨K, fun _ => C⟩) F__law_are_bits T X g__law_is_int
  have g__law_are_bits : Cal P w K mg base 2 "_law_are_bits" (spOf ⟨K, fun _ => C⟩ 2 0 sp__law_are_bits) [] := ⟨f__law_are_bits, fd__law_are_bits, ["_law_thing", "_law_many"], [], O__law_are_bits, m__law_are_bits, k__law_are_bits, F__law_are_bits.binds (ps := ["_law_thing", "_law_many"]) (fun _ _ _ _ _ _ us hl => match us, hl with | [_, _], _ => rfl), .nil⟩
  obtain ⟨f__law_drawn, fd__law_drawn, F__law_drawn, m__law_drawn, k__law_drawn⟩ := G__law_drawn
  have O__law_drawn : FnOk P w K mg base CX0 2 f__law_drawn fd__law_drawn ["_law_hand_here", "_law_cells", "_law_history_here"] (spOf ⟨K, fun _ => C⟩ 3 1 sp__law_drawn) := ok__law_drawn (c := ⟨K, fun _ => C⟩) F__law_drawn T X g__law_draw
  have g__law_drawn : Cal P w K mg base 2 "_law_drawn" (spOf ⟨K, fun _ => C⟩ 3 1 sp__law_drawn) [] := ⟨f__law_drawn, fd__law_drawn, ["_law_hand_here", "_law_cells", "_law_history_here"], [], O__law_drawn, m__law_drawn, k__law_drawn, F__law_drawn.binds (ps := ["_law_hand_here", "_law_cells", "_law_history_here"]) (fun _ _ _ _ _ _ us hl => match us, hl with | [_, _, _], _ => rfl), .nil⟩
  obtain ⟨f_is_lot_of_cells, fd_is_lot_of_cells, F_is_lot_of_cells, m_is_lot_of_cells, k_is_lot_of_cells⟩ := G_is_lot_of_cells
  have O_is_lot_of_cells : FnOk P w K mg base CX0 3 f_is_lot_of_cells fd_is_lot_of_cells ["cells", "thing"] (spOf ⟨K, fun _ => C⟩ 2 0 sp_is_lot_of_cells) := ok_is_lot_of_cells (c := ⟨K, fun _ => C⟩) F_is_lot_of_cells T X g_is_lot
  have g_is_lot_of_cells : Cal P w K mg base 3 "is_lot_of_cells" (spOf ⟨K, fun _ => C⟩ 2 0 sp_is_lot_of_cells) [] := ⟨f_is_lot_of_cells, fd_is_lot_of_cells, ["cells", "thing"], [], O_is_lot_of_cells, m_is_lot_of_cells, k_is_lot_of_cells, F_is_lot_of_cells.binds (ps := ["cells", "thing"]) (fun _ _ _ _ _ _ us hl => match us, hl with | [_, _], _ => rfl), .nil⟩
  obtain ⟨f_is_journal, fd_is_journal, F_is_journal, m_is_journal, k_is_journal⟩ := G_is_journal
  have O_is_journal : FnOk P w K mg base CX0 3 f_is_journal fd_is_journal ["table", "thing"] (spOf ⟨K, fun _ => C⟩ 2 0 sp_is_journal) := ok_is_journal (c := ⟨K, fun _ => C⟩) F_is_journal T X g_is_number_below
  have g_is_journal : Cal P w K mg base 3 "is_journal" (spOf ⟨K, fun _ => C⟩ 2 0 sp_is_journal) [] := ⟨f_is_journal, fd_is_journal, ["table", "thing"], [], O_is_journal, m_is_journal, k_is_journal, F_is_journal.binds (ps := ["table", "thing"]) (fun _ _ _ _ _ _ us hl => match us, hl with | [_, _], _ => rfl), .nil⟩
  obtain ⟨f_is_version, fd_is_version, F_is_version, m_is_version, k_is_version⟩ := G_is_version
  have O_is_version : FnOk P w K mg base CX0 3 f_is_version fd_is_version ["table", "journal", "cell", "thing"] (spOf ⟨K, fun _ => C⟩ 4 0 sp_is_version) := ok_is_version (c := ⟨K, fun _ => C⟩) F_is_version T X g_is_number_below g_is_integer
  have g_is_version : Cal P w K mg base 3 "is_version" (spOf ⟨K, fun _ => C⟩ 4 0 sp_is_version) [] := ⟨f_is_version, fd_is_version, ["table", "journal", "cell", "thing"], [], O_is_version, m_is_version, k_is_version, F_is_version.binds (ps := ["table", "journal", "cell", "thing"]) (fun _ _ _ _ _ _ us hl => match us, hl with | [_, _, _, _], _ => rfl), .nil⟩
  obtain ⟨f__law_table, fd__law_table, F__law_table, m__law_table, k__law_table⟩ := G__law_table
  have O__law_table : FnOk P w K mg base CX0 3 f__law_table fd__law_table ["_law_hand_here", "_law_cells"] (spOf ⟨K, fun _ => C⟩ 2 1 sp__law_table) := ok__law_table (c := ⟨K, fun _ => C⟩) F__law_table T X g__law_draw g__law_kinds g__law_any
  have g__law_table : Cal P w K mg base 3 "_law_table" (spOf ⟨K, fun _ => C⟩ 2 1 sp__law_table) [] := ⟨f__law_table, fd__law_table, ["_law_hand_here", "_law_cells"], [], O__law_table, m__law_table, k__law_table, F__law_table.binds (ps := ["_law_hand_here", "_law_cells"]) (fun _ _ _ _ _ _ us hl => match us, hl with | [_, _], _ => rfl), .nil⟩
  obtain ⟨f__law_plates, fd__law_plates, F__law_plates, m__law_plates, k__law_plates⟩ := G__law_plates
  have O__law_plates : FnOk P w K mg base CX0 3 f__law_plates fd__law_plates ["_law_hand_here", "_law_cells", "_law_history_here"] (spOf ⟨K, fun _ => C⟩ 3 1 sp__law_plates) := ok__law_plates (c := ⟨K, fun _ => C⟩) F__law_plates T X g__law_draw g__law_versions g__law_any g__law_with g__law_lost
  have g__law_plates : Cal P w K mg base 3 "_law_plates" (spOf ⟨K, fun _ => C⟩ 3 1 sp__law_plates) [] := ⟨f__law_plates, fd__law_plates, ["_law_hand_here", "_law_cells", "_law_history_here"], [], O__law_plates, m__law_plates, k__law_plates, F__law_plates.binds (ps := ["_law_hand_here", "_law_cells", "_law_history_here"]) (fun _ _ _ _ _ _ us hl => match us, hl with | [_, _, _], _ => rfl), .nil⟩
  obtain ⟨f_is_bits, fd_is_bits, F_is_bits, m_is_bits, k_is_bits⟩ := G_is_bits
  have O_is_bits : FnOk P w K mg base CX0 3 f_is_bits fd_is_bits ["many", "thing"] (spOf ⟨K, fun _ => C⟩ 2 0 sp_is_bits) := ok_is_bits (c := ⟨K, fun _ => C⟩) F_is_bits T X g_is_number_below
  have g_is_bits : Cal P w K mg base 3 "is_bits" (spOf ⟨K, fun _ => C⟩ 2 0 sp_is_bits) [] := ⟨f_is_bits, fd_is_bits, ["many", "thing"], [], O_is_bits, m_is_bits, k_is_bits, F_is_bits.binds (ps := ["many", "thing"]) (fun _ _ _ _ _ _ us hl => match us, hl with | [_, _], _ => rfl), .nil⟩
  obtain ⟨f_bits_by_version, fd_bits_by_version, F_bits_by_version, m_bits_by_version, k_bits_by_version⟩ := G_bits_by_version
  have O_bits_by_version : FnOk P w K mg base CX0 3 f_bits_by_version fd_bits_by_version ["table", "journal", "functions", "begin"] (spOf ⟨K, fun _ => C⟩ 4 0 sp_bits_by_version) := ok_bits_by_version (c := ⟨K, fun _ => C⟩) F_bits_by_version T X g_source_rows
  have g_bits_by_version : Cal P w K mg base 3 "bits_by_version" (spOf ⟨K, fun _ => C⟩ 4 0 sp_bits_by_version) [] := ⟨f_bits_by_version, fd_bits_by_version, ["table", "journal", "functions", "begin"], [], O_bits_by_version, m_bits_by_version, k_bits_by_version, F_bits_by_version.binds (ps := ["table", "journal", "functions", "begin"]) (fun _ _ _ _ _ _ us hl => match us, hl with | [_, _, _, _], _ => rfl), .nil⟩
  obtain ⟨f__law_odd, fd__law_odd, F__law_odd, m__law_odd, k__law_odd⟩ := G__law_odd
  have O__law_odd : FnOk P w K mg base CX0 3 f__law_odd fd__law_odd ["_law_hand_here", "_law_other"] (spOf ⟨K, fun _ => C⟩ 2 1 sp__law_odd) := ok__law_odd (c := ⟨K, fun _ => C⟩) F__law_odd T X g__law_any g__law_deep g__law_draw
  have g__law_odd : Cal P w K mg base 3 "_law_odd" (spOf ⟨K, fun _ => C⟩ 2 1 sp__law_odd) [] := ⟨f__law_odd, fd__law_odd, ["_law_hand_here", "_law_other"], [], O__law_odd, m__law_odd, k__law_odd, F__law_odd.binds (ps := ["_law_hand_here", "_law_other"]) (fun _ _ _ _ _ _ us hl => match us, hl with | [_, _], _ => rfl), .nil⟩
  obtain ⟨f__law_has_form, fd__law_has_form, F__law_has_form, m__law_has_form, k__law_has_form⟩ := G__law_has_form
  have O__law_has_form : FnOk P w K mg base CX0 3 f__law_has_form fd__law_has_form ["_law_cells", "_law_history_here", "_law_thing"] (spOf ⟨K, fun _ => C⟩ 3 0 sp__law_has_form) := ok__law_has_form (c := ⟨K, fun _ => C⟩) F__law_has_form T X g__law_are_bits
  have g__law_has_form : Cal P w K mg base 3 "_law_has_form" (spOf ⟨K, fun _ => C⟩ 3 0 sp__law_has_form) [] := ⟨f__law_has_form, fd__law_has_form, ["_law_cells", "_law_history_here", "_law_thing"], [], O__law_has_form, m__law_has_form, k__law_has_form, F__law_has_form.binds (ps := ["_law_cells", "_law_history_here", "_law_thing"]) (fun _ _ _ _ _ _ us hl => match us, hl with | [_, _, _], _ => rfl), .nil⟩
  obtain ⟨f__law_bent, fd__law_bent, F__law_bent, m__law_bent, k__law_bent⟩ := G__law_bent
  have O__law_bent : FnOk P w K mg base CX0 3 f__law_bent fd__law_bent ["_law_hand_here", "_law_thing", "_law_odd_here"] (spOf ⟨K, fun _ => C⟩ 3 1 sp__law_bent) := ok__law_bent (c := ⟨K, fun _ => C⟩) F__law_bent T X g__law_draw g__law_any
  have g__law_bent : Cal P w K mg base 3 "_law_bent" (spOf ⟨K, fun _ => C⟩ 3 1 sp__law_bent) [] := ⟨f__law_bent, fd__law_bent, ["_law_hand_here", "_law_thing", "_law_odd_here"], [], O__law_bent, m__law_bent, k__law_bent, F__law_bent.binds (ps := ["_law_hand_here", "_law_thing", "_law_odd_here"]) (fun _ _ _ _ _ _ us hl => match us, hl with | [_, _, _], _ => rfl), .nil⟩
  obtain ⟨f_is_kind, fd_is_kind, F_is_kind, m_is_kind, k_is_kind⟩ := G_is_kind
  have O_is_kind : FnOk P w K mg base CX0 4 f_is_kind fd_is_kind ["cells", "thing"] (spOf ⟨K, fun _ => C⟩ 2 0 sp_is_kind) := ok_is_kind (c := ⟨K, fun _ => C⟩) F_is_kind T X g_is_lot_of_cells g_is_number_below
  have g_is_kind : Cal P w K mg base 4 "is_kind" (spOf ⟨K, fun _ => C⟩ 2 0 sp_is_kind) [] := ⟨f_is_kind, fd_is_kind, ["cells", "thing"], [], O_is_kind, m_is_kind, k_is_kind, F_is_kind.binds (ps := ["cells", "thing"]) (fun _ _ _ _ _ _ us hl => match us, hl with | [_, _], _ => rfl), .nil⟩
  obtain ⟨f_check_journal, fd_check_journal, F_check_journal, m_check_journal, k_check_journal⟩ := G_check_journal
  have O_check_journal : FnOk P w K mg base CX0 4 f_check_journal fd_check_journal ["table", "journal"] (spOf ⟨K, fun _ => C⟩ 2 0 sp_check_journal) := ok_check_journal (c := ⟨K, fun _ => C⟩) F_check_journal T X g_is_journal
  have g_check_journal : Cal P w K mg base 4 "check_journal" (spOf ⟨K, fun _ => C⟩ 2 0 sp_check_journal) [] := ⟨f_check_journal, fd_check_journal, ["table", "journal"], [], O_check_journal, m_check_journal, k_check_journal, F_check_journal.binds (ps := ["table", "journal"]) (fun _ _ _ _ _ _ us hl => match us, hl with | [_, _], _ => rfl), .nil⟩
  obtain ⟨f_is_functions, fd_is_functions, F_is_functions, m_is_functions, k_is_functions⟩ := G_is_functions
  have O_is_functions : FnOk P w K mg base CX0 4 f_is_functions fd_is_functions ["table", "journal", "thing"] (spOf ⟨K, fun _ => C⟩ 3 0 sp_is_functions) := ok_is_functions (c := ⟨K, fun _ => C⟩) F_is_functions T X g_is_bits
  have g_is_functions : Cal P w K mg base 4 "is_functions" (spOf ⟨K, fun _ => C⟩ 3 0 sp_is_functions) [] := ⟨f_is_functions, fd_is_functions, ["table", "journal", "thing"], [], O_is_functions, m_is_functions, k_is_functions, F_is_functions.binds (ps := ["table", "journal", "thing"]) (fun _ _ _ _ _ _ us hl => match us, hl with | [_, _, _], _ => rfl), .nil⟩
  obtain ⟨f__law_parts, fd__law_parts, F__law_parts, m__law_parts, k__law_parts⟩ := G__law_parts
  have O__law_parts : FnOk P w K mg base CX0 4 f__law_parts fd__law_parts ["_law_cells", "_law_history_here", "_law_plates_here", "_law_thing"] (spOf ⟨K, fun _ => C⟩ 4 0 sp__law_parts) := ok__law_parts (c := ⟨K, fun _ => C⟩) F__law_parts T X g__law_has_form g__law_bits
  have g__law_parts : Cal P w K mg base 4 "_law_parts" (spOf ⟨K, fun _ => C⟩ 4 0 sp__law_parts) [] := ⟨f__law_parts, fd__law_parts, ["_law_cells", "_law_history_here", "_law_plates_here", "_law_thing"], [], O__law_parts, m__law_parts, k__law_parts, F__law_parts.binds (ps := ["_law_cells", "_law_history_here", "_law_plates_here", "_law_thing"]) (fun _ _ _ _ _ _ us hl => match us, hl with | [_, _, _, _], _ => rfl), .nil⟩
  obtain ⟨f_is_plates, fd_is_plates, F_is_plates, m_is_plates, k_is_plates⟩ := G_is_plates
  have O_is_plates : FnOk P w K mg base CX0 5 f_is_plates fd_is_plates ["table", "journal", "thing"] (spOf ⟨K, fun _ => C⟩ 3 0 sp_is_plates) := ok_is_plates (c := ⟨K, fun _ => C⟩) F_is_plates T X g_check_journal g_is_version
  have g_is_plates : Cal P w K mg base 5 "is_plates" (spOf ⟨K, fun _ => C⟩ 3 0 sp_is_plates) [] := ⟨f_is_plates, fd_is_plates, ["table", "journal", "thing"], [], O_is_plates, m_is_plates, k_is_plates, F_is_plates.binds (ps := ["table", "journal", "thing"]) (fun _ _ _ _ _ _ us hl => match us, hl with | [_, _, _], _ => rfl), .nil⟩
  obtain ⟨f_bits_of, fd_bits_of, F_bits_of, m_bits_of, k_bits_of⟩ := G_bits_of
  have O_bits_of : FnOk P w K mg base CX0 5 f_bits_of fd_bits_of ["table", "journal", "functions", "begin"] (spOf ⟨K, fun _ => C⟩ 4 0 sp_bits_of) := ok_bits_of (c := ⟨K, fun _ => C⟩) F_bits_of T X g_check_journal g_is_bits g_is_functions g_bits_by_version
  have g_bits_of : Cal P w K mg base 5 "bits_of" (spOf ⟨K, fun _ => C⟩ 4 0 sp_bits_of) [] := ⟨f_bits_of, fd_bits_of, ["table", "journal", "functions", "begin"], [], O_bits_of, m_bits_of, k_bits_of, F_bits_of.binds (ps := ["table", "journal", "functions", "begin"]) (fun _ _ _ _ _ _ us hl => match us, hl with | [_, _, _, _], _ => rfl), .nil⟩
  have O_Table_init : FnOk P w K mg base CX0 5 fI fdI ["self", "cells", "kinds"] (spOf ⟨K, fun _ => C⟩ 3 1 (sp_Table_init ⟨K, fun _ => C⟩)) := ok_Table_init (c := ⟨K, fun _ => C⟩) FI T X g_is_integer g_is_kind
  have g_Table : Mak P w K mg base 5 "Table" C (spOf ⟨K, fun _ => C⟩ 3 1 (sp_Table_init ⟨K, fun _ => C⟩)) [] := ⟨fI, fdI, ["self", "cells", "kinds"], [], MK, O_Table_init, mC, FI.binds (ps := ["self", "cells", "kinds"]) (fun _ _ _ _ _ _ us hl => match us, hl with | [_, _, _], _ => rfl), .nil⟩
  obtain ⟨f_check_plates, fd_check_plates, F_check_plates, m_check_plates, k_check_plates⟩ := G_check_plates
  have O_check_plates : FnOk P w K mg base CX0 6 f_check_plates fd_check_plates ["table", "journal", "plates"] (spOf ⟨K, fun _ => C⟩ 3 0 sp_check_plates) := ok_check_plates (c := ⟨K, fun _ => C⟩) F_check_plates T X g_is_plates
  have g_check_plates : Cal P w K mg base 6 "check_plates" (spOf ⟨K, fun _ => C⟩ 3 0 sp_check_plates) [] := ⟨f_check_plates, fd_check_plates, ["table", "journal", "plates"], [], O_check_plates, m_check_plates, k_check_plates, F_check_plates.binds (ps := ["table", "journal", "plates"]) (fun _ _ _ _ _ _ us hl => match us, hl with | [_, _, _], _ => rfl), .nil⟩
  obtain ⟨f_is_parting, fd_is_parting, F_is_parting, m_is_parting, k_is_parting⟩ := G_is_parting
  have O_is_parting : FnOk P w K mg base CX0 7 f_is_parting fd_is_parting ["table", "journal", "plates", "thing"] (spOf ⟨K, fun _ => C⟩ 4 0 sp_is_parting) := ok_is_parting (c := ⟨K, fun _ => C⟩) F_is_parting T X g_check_plates g_is_functions g_is_bits g_bits_by_version g_last_versions
  have g_is_parting : Cal P w K mg base 7 "is_parting" (spOf ⟨K, fun _ => C⟩ 4 0 sp_is_parting) [] := ⟨f_is_parting, fd_is_parting, ["table", "journal", "plates", "thing"], [], O_is_parting, m_is_parting, k_is_parting, F_is_parting.binds (ps := ["table", "journal", "plates", "thing"]) (fun _ _ _ _ _ _ us hl => match us, hl with | [_, _, _, _], _ => rfl), .nil⟩
  obtain ⟨f_parting, fd_parting, F_parting, m_parting, k_parting⟩ := G_parting
  have O_parting : FnOk P w K mg base CX0 8 f_parting fd_parting ["table", "journal", "plates"] (spOf ⟨K, fun _ => C⟩ 3 0 sp_parting) := ok_parting (c := ⟨K, fun _ => C⟩) F_parting T X g_check_plates g_source_rows g_fresh g_is_parting gD_derived_marks
  have g_parting : Cal P w K mg base 8 "parting" (spOf ⟨K, fun _ => C⟩ 3 0 sp_parting) [] := ⟨f_parting, fd_parting, ["table", "journal", "plates"], [], O_parting, m_parting, k_parting, F_parting.binds (ps := ["table", "journal", "plates"]) (fun _ _ _ _ _ _ us hl => match us, hl with | [_, _, _], _ => rfl), .nil⟩
  exact FnOk.imp (ok_law (c := ⟨K, fun _ => C⟩) F T X g__law_hand g__law_draw g__law_table g__law_journal g__law_history g__law_plates g_parting g__law_lost g__law_drawn g__law_bits g_bits_of g_is_parting g__law_parts g__law_any g__law_bent g__law_odd g__law_flag g_Table) (fun vs H Q E h => top_sp vs H Q E h)
theorem walk {l : PySem.W.OpenLaw} {q : Program} {loose : List Str} {XP : (Str → Option Value) → Heap → Prop} {YP : World → Heap → Prop} {d : DefRec} {K : Params → PySem.W.Frag} (hn : l.most = some 63) (hdf : d.params.defaults = [])
    (hY : ∀ (w : World) (h : Heap), YP w h → (K w.params).In h)
    (F : ∀ (w : World) (mg : Str → Option Value) (fa : Addr) (h : Heap), (K w.params).In h → h.Ns mainGlobals mg → mg d.name = some (.ref fa) →
      ∃ fd : FuncData, (∀ (s : Shared) (u : Value), BindsTo s fd ⟨[u], []⟩ [("_law_script", u)]) ∧ ∀ base : Heap, (K w.params).In base → base.Ns mainGlobals mg → FnOk l.prog w (K w.params) mg base CX0 9 fa fd ["_law_script"] (spTop (K w.params))) :
    PySem.W.WalkO q loose XP YP l.row.toRowW d [] (fun f vs => PySem.call f vs) :=
  L2.walk_of (n := 63) (k := 9) (x := "_law_script") (CX := fun _ => CX0) (sp := fun w => spTop (K w.params)) hn (by decide) hdf ⟨rfl, by decide, by decide⟩ hY F (fun _ _ a ns hl _ hS => ⟨a, ns, rfl, hS, hl, fun _ => rfl⟩) fun _ _ _ _ _ z => z
theorem fin_law {P : Program} {w : World} {K : PySem.W.Frag} {h : Heap} {mg : Str → Option Value} {fa f : Addr} {oc : Value} {od an : Option Addr} {sl : Array (Option Value)} {kV dc pm cd ct : Value} {sp : Sp} {k0 : Nat} (X : K.In h) (G : h.Ns mainGlobals mg) (hfa : mg "law" = some (.ref fa))
    (a : PySem.W.nsIn K mainGlobals "law" = some (some (.ref f))) (l : K.lookup f = some ⟨oc, od, .func (PySem.W.fnOf "law" "law" (defArgs s_law) (defBody s_law) (defScope s_law) .none kV dc pm an cd ct), sl⟩) (c : PySem.W.codeIn K cd "law" = true) (k : PySem.W.keepIn K (.ref f) = true)
    (hF : ∀ (base : Heap) (fd : FuncData), Fun K "law" "law" s_law f fd → FnOk P w K mg base CX0 k0 f fd ["_law_script"] sp) :
    ∃ fd : FuncData, (∀ (s : Shared) (v : Value), BindsTo s fd ⟨[v], []⟩ [("_law_script", v)]) ∧ ∀ base : Heap, K.In base → base.Ns mainGlobals mg → FnOk P w K mg base CX0 k0 fa fd ["_law_script"] sp := by
  have e := hfa.symm.trans (PySem.W.mg_of X G a)
  cases e
  exact ⟨PySem.W.fnOf "law" "law" (defArgs s_law) (defBody s_law) (defScope s_law) .none kV dc pm an cd ct, fun s v => .of_eq rfl, fun base _ _ => hF base _ (fun_mk l c k)⟩
theorem cst {K : PySem.W.Frag} {h : Heap} {mg : Str → Option Value} {x : Str} {i : Int} {t : Tok} (X : K.In h) (G : h.Ns mainGlobals mg) (a : PySem.W.nsIn K mainGlobals x = some (some (.int i t))) : ∃ u, mg x = some u ∧ RelV (.int i) u := ⟨_, PySem.W.mg_of X G a, ⟨_, rfl⟩⟩
end K03
end
set_option Elab.async false
set_option linter.all false
open PySem PySem.W PyProof.Rows K03
set_option maxRecDepth 100000 in
set_option maxHeartbeats 0 in
theorem PySem.Challenge.cw_laidplates_k03_whole_worlds_that_part_holds : PySem.Challenge.rw_laidplates_k03_whole_worlds_that_part.Holds := by
  w_on; o_law; k_head; (case hw => w_witness2)
  k_fill
  refine K03.walk (l := PySem.Challenge.rw_laidplates_k03_whole_worlds_that_part) rfl rfl (fun w h Y => PySem.W.kIn_of Y) ?F
  case F =>
    intro w mg fa h KX G hmg
    have D_is_integer : Got (kOf KX) mg "is_integer" s_is_integer := by
      unfold kOf
      refine' got KX G ?a ?l ?c ?k
      (case a => k_is); (case l => k_is); (case c => k_is); (case k => k_is)
    have D_is_number_below : Got (kOf KX) mg "is_number_below" s_is_number_below := by
      unfold kOf
      refine' got KX G ?a ?l ?c ?k
      (case a => k_is); (case l => k_is); (case c => k_is); (case k => k_is)
    have D_is_lot : Got (kOf KX) mg "is_lot" s_is_lot := by
      unfold kOf
      refine' got KX G ?a ?l ?c ?k
      (case a => k_is); (case l => k_is); (case c => k_is); (case k => k_is)
    have D_is_lot_of_cells : Got (kOf KX) mg "is_lot_of_cells" s_is_lot_of_cells := by
      unfold kOf
      refine' got KX G ?a ?l ?c ?k
      (case a => k_is); (case l => k_is); (case c => k_is); (case k => k_is)
    have D_is_kind : Got (kOf KX) mg "is_kind" s_is_kind := by
      unfold kOf
      refine' got KX G ?a ?l ?c ?k
      (case a => k_is); (case l => k_is); (case c => k_is); (case k => k_is)
    have D_is_journal : Got (kOf KX) mg "is_journal" s_is_journal := by
      unfold kOf
      refine' got KX G ?a ?l ?c ?k
      (case a => k_is); (case l => k_is); (case c => k_is); (case k => k_is)
    have D_check_journal : Got (kOf KX) mg "check_journal" s_check_journal := by
      unfold kOf
      refine' got KX G ?a ?l ?c ?k
      (case a => k_is); (case l => k_is); (case c => k_is); (case k => k_is)
    have D_fresh : Got (kOf KX) mg "fresh" s_fresh := by
      unfold kOf
      refine' got KX G ?a ?l ?c ?k
      (case a => k_is); (case l => k_is); (case c => k_is); (case k => k_is)
    have D_last_versions : Got (kOf KX) mg "last_versions" s_last_versions := by
      unfold kOf
      refine' got KX G ?a ?l ?c ?k
      (case a => k_is); (case l => k_is); (case c => k_is); (case k => k_is)
    have D_source_rows : Got (kOf KX) mg "source_rows" s_source_rows := by
      unfold kOf
      refine' got KX G ?a ?l ?c ?k
      (case a => k_is); (case l => k_is); (case c => k_is); (case k => k_is)
    have D_is_plates : Got (kOf KX) mg "is_plates" s_is_plates := by
      unfold kOf
      refine' got KX G ?a ?l ?c ?k
      (case a => k_is); (case l => k_is); (case c => k_is); (case k => k_is)
    have D_is_version : Got (kOf KX) mg "is_version" s_is_version := by
      unfold kOf
      refine' got KX G ?a ?l ?c ?k
      (case a => k_is); (case l => k_is); (case c => k_is); (case k => k_is)
    have D_check_plates : Got (kOf KX) mg "check_plates" s_check_plates := by
      unfold kOf
      refine' got KX G ?a ?l ?c ?k
      (case a => k_is); (case l => k_is); (case c => k_is); (case k => k_is)
    have D_last_behind : Got (kOf KX) mg "last_behind" s_last_behind := by
      unfold kOf
      refine' got KX G ?a ?l ?c ?k
      (case a => k_is); (case l => k_is); (case c => k_is); (case k => k_is)
    have D_rows_behind : Got (kOf KX) mg "rows_behind" s_rows_behind := by
      unfold kOf
      refine' got KX G ?a ?l ?c ?k
      (case a => k_is); (case l => k_is); (case c => k_is); (case k => k_is)
    have D_derived_marks : GotD (kOf KX) mg "derived_marks" s_derived_marks := by
      unfold kOf
      refine' gotD KX G ?a ?l ?lT ?c ?k
      (case a => k_is); (case l => k_is); (case lT => k_is); (case c => k_is); (case k => k_is)
    have D__law_hand : Got (kOf KX) mg "_law_hand" s__law_hand := by
      unfold kOf
      refine' got KX G ?a ?l ?c ?k
      (case a => k_is); (case l => k_is); (case c => k_is); (case k => k_is)
    have D__law_draw : Got (kOf KX) mg "_law_draw" s__law_draw := by
      unfold kOf
      refine' got KX G ?a ?l ?c ?k
      (case a => k_is); (case l => k_is); (case c => k_is); (case k => k_is)
    have D__law_any : Got (kOf KX) mg "_law_any" s__law_any := by
      unfold kOf
      refine' got KX G ?a ?l ?c ?k
      (case a => k_is); (case l => k_is); (case c => k_is); (case k => k_is)
    have D__law_is_int : Got (kOf KX) mg "_law_is_int" s__law_is_int := by
      unfold kOf
      refine' got KX G ?a ?l ?c ?k
      (case a => k_is); (case l => k_is); (case c => k_is); (case k => k_is)
    have D__law_flag : Got (kOf KX) mg "_law_flag" s__law_flag := by
      unfold kOf
      refine' got KX G ?a ?l ?c ?k
      (case a => k_is); (case l => k_is); (case c => k_is); (case k => k_is)
    have D__law_kinds : Got (kOf KX) mg "_law_kinds" s__law_kinds := by
      unfold kOf
      refine' got KX G ?a ?l ?c ?k
      (case a => k_is); (case l => k_is); (case c => k_is); (case k => k_is)
    have D__law_history : Got (kOf KX) mg "_law_history" s__law_history := by
      unfold kOf
      refine' got KX G ?a ?l ?c ?k
      (case a => k_is); (case l => k_is); (case c => k_is); (case k => k_is)
    have D__law_closure : Got (kOf KX) mg "_law_closure" s__law_closure := by
      unfold kOf
      refine' got KX G ?a ?l ?c ?k
      (case a => k_is); (case l => k_is); (case c => k_is); (case k => k_is)
    have D__law_lost : Got (kOf KX) mg "_law_lost" s__law_lost := by
      unfold kOf
      refine' got KX G ?a ?l ?c ?k
      (case a => k_is); (case l => k_is); (case c => k_is); (case k => k_is)
    have D__law_with : Got (kOf KX) mg "_law_with" s__law_with := by
      unfold kOf
      refine' got KX G ?a ?l ?c ?k
      (case a => k_is); (case l => k_is); (case c => k_is); (case k => k_is)
    have D__law_table : Got (kOf KX) mg "_law_table" s__law_table := by
      unfold kOf
      refine' got KX G ?a ?l ?c ?k
      (case a => k_is); (case l => k_is); (case c => k_is); (case k => k_is)
    have D__law_journal : Got (kOf KX) mg "_law_journal" s__law_journal := by
      unfold kOf
      refine' got KX G ?a ?l ?c ?k
      (case a => k_is); (case l => k_is); (case c => k_is); (case k => k_is)
    have D__law_versions : Got (kOf KX) mg "_law_versions" s__law_versions := by
      unfold kOf
      refine' got KX G ?a ?l ?c ?k
      (case a => k_is); (case l => k_is); (case c => k_is); (case k => k_is)
    have D__law_plates : Got (kOf KX) mg "_law_plates" s__law_plates := by
      unfold kOf
      refine' got KX G ?a ?l ?c ?k
      (case a => k_is); (case l => k_is); (case c => k_is); (case k => k_is)
    have D_is_bits : Got (kOf KX) mg "is_bits" s_is_bits := by
      unfold kOf
      refine' got KX G ?a ?l ?c ?k
      (case a => k_is); (case l => k_is); (case c => k_is); (case k => k_is)
    have D_is_functions : Got (kOf KX) mg "is_functions" s_is_functions := by
      unfold kOf
      refine' got KX G ?a ?l ?c ?k
      (case a => k_is); (case l => k_is); (case c => k_is); (case k => k_is)
    have D_bits_by_version : Got (kOf KX) mg "bits_by_version" s_bits_by_version := by
      unfold kOf
      refine' got KX G ?a ?l ?c ?k
      (case a => k_is); (case l => k_is); (case c => k_is); (case k => k_is)
    have D_bits_of : Got (kOf KX) mg "bits_of" s_bits_of := by
      unfold kOf
      refine' got KX G ?a ?l ?c ?k
      (case a => k_is); (case l => k_is); (case c => k_is); (case k => k_is)
    have D_is_parting : Got (kOf KX) mg "is_parting" s_is_parting := by
      unfold kOf
      refine' got KX G ?a ?l ?c ?k
      (case a => k_is); (case l => k_is); (case c => k_is); (case k => k_is)
    have D_parting : Got (kOf KX) mg "parting" s_parting := by
      unfold kOf
      refine' got KX G ?a ?l ?c ?k
      (case a => k_is); (case l => k_is); (case c => k_is); (case k => k_is)
    have D__law_deep : Got (kOf KX) mg "_law_deep" s__law_deep := by
      unfold kOf
      refine' got KX G ?a ?l ?c ?k
      (case a => k_is); (case l => k_is); (case c => k_is); (case k => k_is)
    have D__law_odd : Got (kOf KX) mg "_law_odd" s__law_odd := by
      unfold kOf
      refine' got KX G ?a ?l ?c ?k
      (case a => k_is); (case l => k_is); (case c => k_is); (case k => k_is)
    have D__law_bits : Got (kOf KX) mg "_law_bits" s__law_bits := by
      unfold kOf
      refine' got KX G ?a ?l ?c ?k
      (case a => k_is); (case l => k_is); (case c => k_is); (case k => k_is)
    have D__law_are_bits : Got (kOf KX) mg "_law_are_bits" s__law_are_bits := by
      unfold kOf
      refine' got KX G ?a ?l ?c ?k
      (case a => k_is); (case l => k_is); (case c => k_is); (case k => k_is)
    have D__law_has_form : Got (kOf KX) mg "_law_has_form" s__law_has_form := by
      unfold kOf
      refine' got KX G ?a ?l ?c ?k
      (case a => k_is); (case l => k_is); (case c => k_is); (case k => k_is)
    have D__law_parts : Got (kOf KX) mg "_law_parts" s__law_parts := by
      unfold kOf
      refine' got KX G ?a ?l ?c ?k
      (case a => k_is); (case l => k_is); (case c => k_is); (case k => k_is)
    have D__law_drawn : Got (kOf KX) mg "_law_drawn" s__law_drawn := by
      unfold kOf
      refine' got KX G ?a ?l ?c ?k
      (case a => k_is); (case l => k_is); (case c => k_is); (case k => k_is)
    have D__law_bent : Got (kOf KX) mg "_law_bent" s__law_bent := by
      unfold kOf
      refine' got KX G ?a ?l ?c ?k
      (case a => k_is); (case l => k_is); (case c => k_is); (case k => k_is)
    refine' fin_law KX G hmg ?a ?l ?c ?k ?hF
    (case a => k_is); (case l => k_is); (case c => k_is); (case k => k_is)
    case hF =>
      intro base fd F
      have T : Tb mg := by
        refine' ⟨PySem.W.mg_none_of KX G ?b_abs, PySem.W.mg_none_of KX G ?b_all, PySem.W.mg_none_of KX G ?b_any, PySem.W.mg_none_of KX G ?b_bool, PySem.W.mg_none_of KX G ?b_dict, PySem.W.mg_none_of KX G ?b_enumerate, PySem.W.mg_none_of KX G ?b_int, PySem.W.mg_none_of KX G ?b_isinstance, PySem.W.mg_none_of KX G ?b_len, PySem.W.mg_none_of KX G ?b_list, PySem.W.mg_none_of KX G ?b_range, PySem.W.mg_none_of KX G ?b_set, PySem.W.mg_none_of KX G ?b_sorted, PySem.W.mg_none_of KX G ?b_tuple, PySem.W.mg_none_of KX G ?b_zip, cst KX G ?c_MOST_CELLS, cst KX G ?c_MOST_KINDS, cst KX G ?c_MOST_READS, cst KX G ?c_MOST_DEEDS⟩
        (case b_abs => k_is)
        (case b_all => k_is)
        (case b_any => k_is)
        (case b_bool => k_is)
        (case b_dict => k_is)
        (case b_enumerate => k_is)
        (case b_int => k_is)
        (case b_isinstance => k_is)
        (case b_len => k_is)
        (case b_list => k_is)
        (case b_range => k_is)
        (case b_set => k_is)
        (case b_sorted => k_is)
        (case b_tuple => k_is)
        (case b_zip => k_is)
        (case c_MOST_CELLS => k_is)
        (case c_MOST_KINDS => k_is)
        (case c_MOST_READS => k_is)
        (case c_MOST_DEEDS => k_is)
      refine' whole D_is_integer D_is_number_below D_is_lot D_is_lot_of_cells D_is_kind D_is_journal D_check_journal D_fresh D_last_versions D_source_rows D_is_plates D_is_version D_check_plates D_last_behind D_rows_behind D_derived_marks D__law_hand D__law_draw D__law_any D__law_is_int D__law_flag D__law_kinds D__law_history D__law_closure D__law_lost D__law_with D__law_table D__law_journal D__law_versions D__law_plates D_is_bits D_is_functions D_bits_by_version D_bits_of D_is_parting D_parting D__law_deep D__law_odd D__law_bits D__law_are_bits D__law_has_form D__law_parts D__law_drawn D__law_bent T (C := ?C) (fI := ?fI) (fdI := ?fdI) ⟨?pg, ?hd, ?po, ?sa⟩ ?nc ?nk ?ha ?hn ?htk ?hm ?tki ?tkb ?tkt ?tks ⟨?mk, ?ini, ?ifn, ?kc⟩ (L2.fun_mk ?li ?ci ?ki) (PySem.W.mg_of KX G ?aC) F
      (case aC => k_is)
      (case ini => k_is); (case ifn => k_is); (case li => k_is); (case ci => k_is); (case ki => k_is)
      (case pg => k_is); (case hd => k_is); (case po => k_is); (case sa => k_is); (case mk => k_is); (case kc => k_is)
      (case nc => k_is); (case nk => k_is)
      (case ha => k_is)
      (case hn => k_is)
      (case htk => k_is)
      (case hm => k_is)
      (case tki => kit_is)
      (case tkb => kit_is)
      (case tkt => kit_is)
      (case tks => kit_is)
