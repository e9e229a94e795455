import PyProof.Rows.All
import Wide.All
import OpenK.AllK
import Wide.FinOn
import HandS.ForMost
import HandS.Deep
import HandS.Walk
import HandS.Zip
import HandS.IsInst
import HandS.TupAny
import HandS.DictComp
import HandS.WordsExc
import HandS.Defaults
import HandS.Flow
import HandS.Wide
import PyProof.ReprRoads
import PyProof.CallFns
import KE.GoesEnum
import KE.GoesMore
import PyProof.StrLawsRepr
import KE.KStateDown
import Lean
import HandS.Head0
import HandS.Head1
import HandS.Head2
import HandS.HeadEnd
import HandS.HeadHook1
import HandS.HeadHook2
import PySem.Challenge.RW_allpieces_k06_whole_wires_about
set_option Elab.async false
set_option linter.all false
set_option maxRecDepth 100000
set_option maxHeartbeats 0
/-! Data seen through the heap: values, objects that may still change, states of a body. -/
namespace AP
open PySem PySem.Spec PyProof.Rows L2
abbrev D := PyData
abbrev Zs := Addr → Prop
def kD : Key → D
  | .inl i => .int i
  | .inr x => .str x
theorem kD_inj {a b : Key} (h : kD a = kD b) : a = b := by
  cases a <;> cases b <;> simp_all [kD]
mutual
inductive Rp (Z : Zs) (H : Hp) : V → D → Prop
  | non : Rp Z H .non .none
  | bl (b : Bool) : Rp Z H (.bl b) (.bool b)
  | int (i : Int) : Rp Z H (.int i) (.int i)
  | str (x : Str) : Rp Z H (.str x) (.str x)
  | lst {a : Addr} {xs : List V} {ds : List D} : ¬ Z a → H a = some (.lst xs) → RpA Z H xs ds → Rp Z H (.ref a) (.list ds)
  | tup {a : Addr} {xs : List V} {ds : List D} : ¬ Z a → H a = some (.tup xs) → RpA Z H xs ds → Rp Z H (.ref a) (.tuple ds)
  | dct {a : Addr} {kvs : List (Key × V)} {ps : List (D × D)} : ¬ Z a → H a = some (.dK kvs) → RpK Z H kvs ps → Rp Z H (.ref a) (.dict ps)
inductive RpA (Z : Zs) (H : Hp) : List V → List D → Prop
  | nil : RpA Z H [] []
  | cons {v : V} {vs : List V} {d : D} {ds : List D} : Rp Z H v d → RpA Z H vs ds → RpA Z H (v :: vs) (d :: ds)
inductive RpK (Z : Zs) (H : Hp) : List (Key × V) → List (D × D) → Prop
  | nil : RpK Z H [] []
  | cons {k : Key} {v : V} {kvs : List (Key × V)} {d : D} {ps : List (D × D)} : Rp Z H v d → RpK Z H kvs ps → RpK Z H ((k, v) :: kvs) ((kD k, d) :: ps)
end
/-- the heap only grows -/
def New (H H' : Hp) : Prop := ∀ a o, H a = some o → H' a = some o
theorem New.refl (H : Hp) : New H H := fun _ _ h => h
theorem New.trans {H H1 H2 : Hp} (a : New H H1) (b : New H1 H2) : New H H2 := fun x o h => b x o (a x o h)
theorem New.upd {H : Hp} {p : Addr} {o : HO} (h : H p = none) : New H (upd H p o) := fun a u e => by
  rw [upd_ne (ne_of_none e h)]; exact e
mutual
theorem Rp.mono {Z Z' : Zs} {H H' : Hp} (k : ∀ a o, ¬ Z a → H a = some o → ¬ Z' a ∧ H' a = some o) : ∀ {v : V} {d : D}, Rp Z H v d → Rp Z' H' v d
  | _, _, .non => .non
  | _, _, .bl b => .bl b
  | _, _, .int i => .int i
  | _, _, .str x => .str x
  | _, _, .lst z h r => .lst (k _ _ z h).1 (k _ _ z h).2 (RpA.mono k r)
  | _, _, .tup z h r => .tup (k _ _ z h).1 (k _ _ z h).2 (RpA.mono k r)
  | _, _, .dct z h r => .dct (k _ _ z h).1 (k _ _ z h).2 (RpK.mono k r)
theorem RpA.mono {Z Z' : Zs} {H H' : Hp} (k : ∀ a o, ¬ Z a → H a = some o → ¬ Z' a ∧ H' a = some o) : ∀ {vs : List V} {ds : List D}, RpA Z H vs ds → RpA Z' H' vs ds
  | _, _, .nil => .nil
  | _, _, .cons h r => .cons (Rp.mono k h) (RpA.mono k r)
theorem RpK.mono {Z Z' : Zs} {H H' : Hp} (k : ∀ a o, ¬ Z a → H a = some o → ¬ Z' a ∧ H' a = some o) : ∀ {vs : List (Key × V)} {ds : List (D × D)}, RpK Z H vs ds → RpK Z' H' vs ds
  | _, _, .nil => .nil
  | _, _, .cons h r => .cons (Rp.mono k h) (RpK.mono k r)
end
section
variable {Z : Zs} {H H' : Hp}
theorem Rp.new {v : V} {d : D} (n : New H H') (h : Rp Z H v d) : Rp Z H' v d := h.mono fun a o z e => ⟨z, n a o e⟩
theorem RpA.new {v : List V} {d : List D} (n : New H H') (h : RpA Z H v d) : RpA Z H' v d := h.mono fun a o z e => ⟨z, n a o e⟩
theorem RpK.new {v : List (Key × V)} {d : List (D × D)} (n : New H H') (h : RpK Z H v d) : RpK Z H' v d := h.mono fun a o z e => ⟨z, n a o e⟩
theorem RpA.length : ∀ {vs : List V} {ds : List D}, RpA Z H vs ds → vs.length = ds.length
  | _, _, .nil => rfl
  | _, _, .cons _ r => by simp [RpA.length r]
theorem RpK.length : ∀ {vs : List (Key × V)} {ds : List (D × D)}, RpK Z H vs ds → vs.length = ds.length
  | _, _, .nil => rfl
  | _, _, .cons _ r => by simp [RpK.length r]
theorem RpA.get : ∀ {vs : List V} {ds : List D} {i : Nat} {d : D}, RpA Z H vs ds → ds[i]? = some d → ∃ v, vs[i]? = some v ∧ Rp Z H v d
  | _, _, _, _, .nil, e => by simp at e
  | _, _, 0, _, .cons h _, e => by simp at e; subst e; exact ⟨_, rfl, h⟩
  | _, _, i + 1, d, .cons _ r, e => by
    obtain ⟨v, a, b⟩ := RpA.get (i := i) (d := d) r (by simpa using e)
    exact ⟨v, by simpa using a, b⟩
theorem RpA.getV : ∀ {vs : List V} {ds : List D} {i : Nat} {v : V}, RpA Z H vs ds → vs[i]? = some v → ∃ d, ds[i]? = some d ∧ Rp Z H v d
  | _, _, _, _, .nil, e => by simp at e
  | _, _, 0, _, .cons h _, e => by simp at e; subst e; exact ⟨_, rfl, h⟩
  | _, _, i + 1, v, .cons _ r, e => by
    obtain ⟨d, a, b⟩ := RpA.getV (i := i) (v := v) r (by simpa using e)
    exact ⟨d, by simpa using a, b⟩
theorem RpA.append : ∀ {vs us : List V} {ds es : List D}, RpA Z H vs ds → RpA Z H us es → RpA Z H (vs ++ us) (ds ++ es)
  | _, _, _, _, .nil, s => s
  | _, _, _, _, .cons h r, s => .cons h (RpA.append r s)
theorem RpA.take : ∀ {vs : List V} {ds : List D} (n : Nat), RpA Z H vs ds → RpA Z H (vs.take n) (ds.take n)
  | _, _, 0, _ => .nil
  | _, _, _ + 1, .nil => .nil
  | _, _, n + 1, .cons h r => .cons h (RpA.take n r)
theorem RpA.drop : ∀ {vs : List V} {ds : List D} (n : Nat), RpA Z H vs ds → RpA Z H (vs.drop n) (ds.drop n)
  | _, _, 0, r => r
  | _, _, _ + 1, .nil => .nil
  | _, _, n + 1, .cons _ r => RpA.drop n r
/-- what an object holds now, whether it may change or not -/
def Rt (Z : Zs) (H : Hp) (v : V) : D → Prop
  | .none => v = .non
  | .bool b => v = .bl b
  | .int i => v = .int i
  | .str x => v = .str x
  | .list ds => ∃ a xs, v = .ref a ∧ H a = some (.lst xs) ∧ RpA Z H xs ds
  | .tuple ds => ∃ a xs, v = .ref a ∧ H a = some (.tup xs) ∧ RpA Z H xs ds ∧ ¬ Z a
  | .dict ps => ∃ a kvs, v = .ref a ∧ H a = some (.dK kvs) ∧ RpK Z H kvs ps
theorem Rp.rt {v : V} {d : D} (h : Rp Z H v d) : Rt Z H v d := by
  cases h with
  | non => rfl
  | bl b => rfl
  | int i => rfl
  | str x => rfl
  | lst z e r => exact ⟨_, _, rfl, e, r⟩
  | tup z e r => exact ⟨_, _, rfl, e, r, z⟩
  | dct z e r => exact ⟨_, _, rfl, e, r⟩
theorem Rt.new {v : V} {d : D} (n : New H H') (h : Rt Z H v d) : Rt Z H' v d := by
  cases d with
  | none => exact h
  | bool b => exact h
  | int i => exact h
  | str x => exact h
  | list ds => obtain ⟨a, xs, e, q, r⟩ := h; exact ⟨a, xs, e, n _ _ q, r.new n⟩
  | tuple ds => obtain ⟨a, xs, e, q, r, z⟩ := h; exact ⟨a, xs, e, n _ _ q, r.new n, z⟩
  | dict ps => obtain ⟨a, xs, e, q, r⟩ := h; exact ⟨a, xs, e, n _ _ q, r.new n⟩
end
mutual
def noD : D → Bool
  | .list ds => noDs ds
  | .tuple ds => noDs ds
  | .dict _ => false
  | _ => true
def noDs : List D → Bool
  | [] => true
  | d :: ds => noD d && noDs ds
end
mutual
theorem Rp.dp {K : PySem.W.Frag} {Z : Zs} {H : Hp} : ∀ {v : V} {d : D}, Rp Z H v d → noD d = true → Dp K H v d
  | _, _, .non, _ => .non
  | _, _, .bl b, _ => .bl b
  | _, _, .int i, _ => .int i
  | _, _, .str x, _ => .str x
  | _, _, .lst _ h r, e => .lst (SqL.of h) (RpA.dp r (by simpa [noD] using e))
  | _, _, .tup _ h r, e => .tup (SqT.of h) (RpA.dp r (by simpa [noD] using e))
  | _, _, .dct _ _ _, e => by simp [noD] at e
theorem RpA.dp {K : PySem.W.Frag} {Z : Zs} {H : Hp} : ∀ {vs : List V} {ds : List D}, RpA Z H vs ds → noDs ds = true → DpAll K H vs ds
  | _, _, .nil, _ => .nil
  | _, _, .cons h r, e => by
    simp only [noDs, Bool.and_eq_true] at e
    exact .cons (Rp.dp h e.1) (RpA.dp r e.2)
end
theorem Rt.dp {K : PySem.W.Frag} {Z : Zs} {H : Hp} {v : V} {d : D} (h : Rt Z H v d) (e : noD d = true) : Dp K H v d := by
  cases d with
  | none => cases h; exact .non
  | bool b => cases h; exact .bl b
  | int i => cases h; exact .int i
  | str x => cases h; exact .str x
  | list ds => obtain ⟨a, xs, rfl, q, r⟩ := h; exact .lst (SqL.of q) (r.dp (by simpa [noD] using e))
  | tuple ds => obtain ⟨a, xs, rfl, q, r, _⟩ := h; exact .tup (SqT.of q) (r.dp (by simpa [noD] using e))
  | dict ps => simp [noD] at e

/-! ### states of a body -/
inductive SV where
  | d (x : D) | m (k : Nat) | w (v : V)
inductive MO where
  | l (ds : List D) | k (ps : List (Key × D))
structure S where
  σ : List (Option SV)
  o : List MO
def zz (Z : Zs) (M : List Addr) : Zs := fun a => Z a ∨ a ∈ M
def Rv (Z : Zs) (M : List Addr) (H : Hp) (v : V) : SV → Prop
  | .d x => Rp (zz Z M) H v x
  | .m k => ∃ a, M[k]? = some a ∧ v = .ref a
  | .w u => v = u
def kvD (ps : List (Key × D)) : List (D × D) := ps.map fun p => (kD p.1, p.2)
def Ro (Z : Zs) (M : List Addr) (H : Hp) (a : Addr) : MO → Prop
  | .l ds => ∃ xs, H a = some (.lst xs) ∧ RpA (zz Z M) H xs ds
  | .k ps => ∃ kvs, H a = some (.dK kvs) ∧ RpK (zz Z M) H kvs (kvD ps)
structure Rob (Z : Zs) (M : List Addr) (o : List MO) (H : Hp) : Prop where
  nd : M.Nodup
  zs : ∀ a, Z a → H a ≠ none
  nz : ∀ a ∈ M, ¬ Z a
  len : o.length = M.length
  ob : ∀ (k : Nat) (a : Addr) (x : MO), M[k]? = some a → o[k]? = some x → Ro Z M H a x
structure Rel (Z : Zs) (M : List Addr) (s : S) (σ : L2.St) (H : Hp) : Prop where
  r : Rob Z M s.o H
  sl : ∀ (i : Nat) (sv : SV), s.σ[i]? = some (some sv) → ∃ v, σ[i]? = some (some v) ∧ Rv Z M H v sv
  sn : s.σ.length = σ.length
structure Ext (M : List Addr) (H : Hp) (M' : List Addr) (H' : Hp) : Prop where
  pre : ∃ e, M' = M ++ e
  keep : ∀ a o, a ∉ M → H a = some o → a ∉ M' ∧ H' a = some o
  dom : ∀ a, H a ≠ none → H' a ≠ none
section
variable {Z : Zs} {M M' M1 M2 : List Addr} {H H' H1 H2 : Hp} {σ σ' : L2.St} {s : S}
theorem Ext.refl (M : List Addr) (H : Hp) : Ext M H M H := ⟨⟨[], by simp⟩, fun _ _ a b => ⟨a, b⟩, fun _ h => h⟩
theorem Ext.trans (a : Ext M H M1 H1) (b : Ext M1 H1 M2 H2) : Ext M H M2 H2 := by
  obtain ⟨⟨e, he⟩, k, d⟩ := a
  obtain ⟨⟨e2, he2⟩, k2, d2⟩ := b
  refine ⟨⟨e ++ e2, by rw [he2, he, List.append_assoc]⟩, fun x o h1 h2 => ?_, fun x h => d2 x (d x h)⟩
  obtain ⟨q1, q2⟩ := k x o h1 h2
  exact k2 x o q1 q2
theorem Ext.new (n : New H H') : Ext M H M H' := ⟨⟨[], by simp⟩, fun a o h e => ⟨h, n a o e⟩, fun a h => by
  cases e : H a with
  | none => exact absurd e h
  | some o => rw [n a o e]; exact fun z => nomatch z⟩
theorem Ext.mono_d (e : Ext M H M' H') {v : V} {d : D} (h : Rp (zz Z M) H v d) : Rp (zz Z M') H' v d := h.mono fun a o z q => by
  have h1 : ¬ Z a := fun y => z (.inl y)
  have h2 : a ∉ M := fun y => z (.inr y)
  obtain ⟨q1, q2⟩ := e.keep a o h2 q
  exact ⟨fun y => y.elim h1 q1, q2⟩
theorem Ext.mono_a (e : Ext M H M' H') {v : List V} {d : List D} (h : RpA (zz Z M) H v d) : RpA (zz Z M') H' v d := h.mono fun a o z q => by
  have h1 : ¬ Z a := fun y => z (.inl y)
  have h2 : a ∉ M := fun y => z (.inr y)
  obtain ⟨q1, q2⟩ := e.keep a o h2 q
  exact ⟨fun y => y.elim h1 q1, q2⟩
theorem Ext.mono_k (e : Ext M H M' H') {v : List (Key × V)} {d : List (D × D)} (h : RpK (zz Z M) H v d) : RpK (zz Z M') H' v d := h.mono fun a o z q => by
  have h1 : ¬ Z a := fun y => z (.inl y)
  have h2 : a ∉ M := fun y => z (.inr y)
  obtain ⟨q1, q2⟩ := e.keep a o h2 q
  exact ⟨fun y => y.elim h1 q1, q2⟩
theorem Ext.rv (e : Ext M H M' H') {v : V} {sv : SV} (h : Rv Z M H v sv) : Rv Z M' H' v sv := by
  cases sv with
  | d x => exact e.mono_d h
  | m k =>
    obtain ⟨a, q, r⟩ := h
    obtain ⟨x, he⟩ := e.pre
    refine ⟨a, ?_, r⟩
    rw [he, List.getElem?_append_left (List.getElem?_eq_some_iff.mp q).1]
    exact q
  | w u => exact h
theorem Rob.zzd (r : Rob Z M s.o H) : ∀ a, zz Z M a → H a ≠ none := by
  intro a h
  rcases h with h | h
  · exact r.zs a h
  · obtain ⟨k, hk, e⟩ := List.getElem_of_mem h
    have h1 : M[k]? = some a := by rw [List.getElem?_eq_getElem hk, e]
    have hk2 : k < s.o.length := by rw [r.len]; exact hk
    have q := r.ob k a _ h1 (List.getElem?_eq_getElem hk2)
    cases e2 : s.o[k] with
    | l ds => rw [e2] at q; obtain ⟨xs, q, _⟩ := q; rw [q]; exact fun z => nomatch z
    | k ps => rw [e2] at q; obtain ⟨xs, q, _⟩ := q; rw [q]; exact fun z => nomatch z
/-- growth changes nothing -/
theorem Rob.new {o : List MO} (r : Rob Z M o H) (n : New H H') : Rob Z M o H' := by
  refine ⟨r.nd, fun a h => (Ext.new (M := M) n).dom a (r.zs a h), r.nz, r.len, fun k a x h1 h2 => ?_⟩
  have q := r.ob k a x h1 h2
  cases x with
  | l ds => obtain ⟨xs, q1, q2⟩ := q; exact ⟨xs, n _ _ q1, q2.new n⟩
  | k ps => obtain ⟨xs, q1, q2⟩ := q; exact ⟨xs, n _ _ q1, q2.new n⟩
theorem Rel.new (r : Rel Z M s σ H) (n : New H H') : Rel Z M s σ H' :=
  ⟨r.r.new n, fun i sv h => by
    obtain ⟨v, q1, q2⟩ := r.sl i sv h
    exact ⟨v, q1, (Ext.new n).rv q2⟩, r.sn⟩
theorem Rel.put (r : Rel Z M s σ H) {i : Nat} {v : V} {sv : SV} (h : Rv Z M H v sv) : Rel Z M { s with σ := s.σ.set i (some sv) } (σ.set i (some v)) H := by
  refine ⟨r.r, fun j w e => ?_, by simp [r.sn]⟩
  by_cases hj : i = j
  · subst hj
    by_cases hl : i < s.σ.length
    · rw [List.getElem?_set_self hl] at e
      cases e
      exact ⟨v, by rw [List.getElem?_set_self (by rw [← r.sn]; exact hl)], h⟩
    · rw [List.getElem?_eq_none (by simpa using hl)] at e; cases e
  · rw [List.getElem?_set_ne hj] at e
    obtain ⟨u, q1, q2⟩ := r.sl j w e
    exact ⟨u, by rw [List.getElem?_set_ne hj]; exact q1, q2⟩
/-- the state's objects, another list of slots -/
theorem Rel.slots (r : Rel Z M s σ H) {τ : List (Option SV)} {σ' : L2.St} (hl : τ.length = σ'.length) (h : ∀ (i : Nat) sv, τ[i]? = some (some sv) → ∃ v, σ'[i]? = some (some v) ∧ Rv Z M H v sv) : Rel Z M { s with σ := τ } σ' H := ⟨r.r, h, hl⟩
end
/-- the data that a value shows now -/
def vw (o : List MO) : SV → Option D
  | .d x => some x
  | .m k => match o[k]? with
    | some (.l ds) => some (.list ds)
    | some (.k ps) => some (.dict (kvD ps))
    | none => none
  | .w _ => none
theorem vw_ok {Z : Zs} {M : List Addr} {o : List MO} {H : Hp} {v : V} {sv : SV} {d : D} (r : Rob Z M o H) (h : Rv Z M H v sv) (e : vw o sv = some d) : Rt (zz Z M) H v d := by
  cases sv with
  | d x => cases e; exact Rp.rt h
  | m k =>
    obtain ⟨a, q, rfl⟩ := h
    simp only [vw] at e
    cases ho : o[k]? with
    | none => rw [ho] at e; cases e
    | some x =>
      rw [ho] at e
      have p := r.ob k a x q ho
      cases x with
      | l ds => cases e; obtain ⟨xs, p1, p2⟩ := p; exact ⟨a, xs, rfl, p1, p2⟩
      | k ps => cases e; obtain ⟨xs, p1, p2⟩ := p; exact ⟨a, xs, rfl, p1, p2⟩
  | w u => cases e
end AP

/-! What an expression's reading asks, told by a function of the state. -/
namespace AP
open PySem PySem.Spec PyProof.Rows L2
structure Ex2 (M : List Addr) (H : Hp) (M' : List Addr) (H' : Hp) : Prop extends Ext M H M' H' where
  same : M' = M
theorem Ex2.refl (M : List Addr) (H : Hp) : Ex2 M H M H := ⟨Ext.refl M H, rfl⟩
theorem Ex2.trans {M M1 M2 : List Addr} {H H1 H2 : Hp} (a : Ex2 M H M1 H1) (b : Ex2 M1 H1 M2 H2) : Ex2 M H M2 H2 := ⟨a.toExt.trans b.toExt, b.same.trans a.same⟩
theorem Ex2.new {M : List Addr} {H H' : Hp} (n : New H H') : Ex2 M H M H' := ⟨Ext.new n, rfl⟩
abbrev EM := S → Option (SV × List MO)
abbrev TM := S → Option (Bool × List MO)
abbrev AM := S → Option (List SV × List MO)
def S.on (s : S) (o : List MO) : S := { s with o := o }
def Sn (t : TE) (m : EM) : Prop := ∀ Z M s σ H, Rel Z M s σ H → ∀ r o', m s = some (r, o') → ∀ Q : VK, (∀ M' v H', Ex2 M H M' H' → Rel Z M' (s.on o') σ H' → Rv Z M' H' v r → Q v H') → t σ H Q
def SnT (t : TT) (m : TM) : Prop := ∀ Z M s σ H, Rel Z M s σ H → ∀ r o', m s = some (r, o') → ∀ Q : Bool → Hp → Prop, (∀ M' H', Ex2 M H M' H' → Rel Z M' (s.on o') σ H' → Q r H') → t σ H Q
inductive RvA (Z : Zs) (M : List Addr) (H : Hp) : List V → List SV → Prop
  | nil : RvA Z M H [] []
  | cons {v : V} {vs : List V} {x : SV} {xs : List SV} : Rv Z M H v x → RvA Z M H vs xs → RvA Z M H (v :: vs) (x :: xs)
def SnA (t : TA) (m : AM) : Prop := ∀ Z M s σ H, Rel Z M s σ H → ∀ r o', m s = some (r, o') → ∀ Q : List V → Hp → Prop, (∀ M' vs H', Ex2 M H M' H' → Rel Z M' (s.on o') σ H' → RvA Z M' H' vs r → Q vs H') → t σ H Q
theorem Rel.ext_on {Z : Zs} {M M' : List Addr} {s : S} {σ : L2.St} {H H' : Hp} {o : List MO} (h : Rel Z M s σ H) (e : Ext M H M' H') (r : Rob Z M' o H') : Rel Z M' (s.on o) σ H' :=
  ⟨r, fun i sv q => by
    obtain ⟨v, q1, q2⟩ := h.sl i sv q
    exact ⟨v, q1, e.rv q2⟩, h.sn⟩
theorem RvA.ext {Z : Zs} {M M' : List Addr} {H H' : Hp} (e : Ext M H M' H') : ∀ {vs : List V} {xs : List SV}, RvA Z M H vs xs → RvA Z M' H' vs xs
  | _, _, .nil => .nil
  | _, _, .cons h r => .cons (e.rv h) (RvA.ext e r)
/-! values' rules, told by data -/
def R2D (r : R2) (g : D → D → Option D) : Prop := ∀ (Z : Zs) (H : Hp), (∀ a, Z a → H a ≠ none) → ∀ v1 v2 d1 d2 d, Rt Z H v1 d1 → Rt Z H v2 d2 → g d1 d2 = some d → ∀ Q : VK, (∀ v H', New H H' → Rp Z H' v d → Q v H') → r v1 v2 H Q
def R1D (r : V → Hp → VK → Prop) (g : D → Option D) : Prop := ∀ (Z : Zs) (H : Hp), (∀ a, Z a → H a ≠ none) → ∀ v1 d1 d, Rt Z H v1 d1 → g d1 = some d → ∀ Q : VK, (∀ v H', New H H' → Rp Z H' v d → Q v H') → r v1 H Q
inductive RtA (Z : Zs) (H : Hp) : List V → List D → Prop
  | nil : RtA Z H [] []
  | cons {v : V} {vs : List V} {d : D} {ds : List D} : Rt Z H v d → RtA Z H vs ds → RtA Z H (v :: vs) (d :: ds)
def RCD (r : List V → Hp → VK → Prop) (g : List D → Option D) : Prop := ∀ (Z : Zs) (H : Hp), (∀ a, Z a → H a ≠ none) → ∀ vs ds d, RtA Z H vs ds → g ds = some d → ∀ Q : VK, (∀ v H', New H H' → Rp Z H' v d → Q v H') → r vs H Q
def oel (a b : Option D) : Option D := match a with
  | some d => some d
  | none => b
theorem R2D.or {r r' : R2} {g g' : D → D → Option D} (h : R2D r g) (h' : R2D r' g') : R2D (fun x y H Q => r x y H Q ∨ r' x y H Q) (fun a b => oel (g a b) (g' a b)) := by
  intro Z H hz v1 v2 d1 d2 d r1 r2 e Q q
  cases eg : g d1 d2 with
  | some d' => simp only [oel, eg] at e; exact .inl (h Z H hz v1 v2 d1 d2 d r1 r2 (by rw [eg]; exact e) Q q)
  | none => simp only [oel, eg] at e; exact .inr (h' Z H hz v1 v2 d1 d2 d r1 r2 e Q q)
theorem RCD.or {r r' : List V → Hp → VK → Prop} {g g' : List D → Option D} (h : RCD r g) (h' : RCD r' g') : RCD (fun x H Q => r x H Q ∨ r' x H Q) (fun a => oel (g a) (g' a)) := by
  intro Z H hz v1 d1 d r1 e Q q
  cases eg : g d1 with
  | some d' => simp only [oel, eg] at e; exact .inl (h Z H hz v1 d1 d r1 (by rw [eg]; exact e) Q q)
  | none => simp only [oel, eg] at e; exact .inr (h' Z H hz v1 d1 d r1 e Q q)
def vws (o : List MO) : List SV → Option (List D)
  | [] => some []
  | x :: xs => match vw o x with
    | some d => (match vws o xs with
      | some ds => some (d :: ds)
      | none => none)
    | none => none
theorem vws_ok {Z : Zs} {M : List Addr} {o : List MO} {H : Hp} (r : Rob Z M o H) : ∀ {vs : List V} {xs : List SV} {ds : List D}, RvA Z M H vs xs → vws o xs = some ds → RtA (zz Z M) H vs ds
  | _, _, _, .nil, e => by simp only [vws] at e; cases e; exact .nil
  | _, _, _, .cons (x := x) (xs := xs) h t, e => by
    simp only [vws] at e
    cases e1 : vw o x with
    | none => rw [e1] at e; cases e
    | some d =>
      cases e2 : vws o xs with
      | none => rw [e1, e2] at e; cases e
      | some ds => rw [e1, e2] at e; cases e; exact .cons (vw_ok r h e1) (vws_ok r t e2)
/-! names, constants -/
def mVar (i : Nat) : EM := fun s => match s.σ[i]? with
  | some (some v) => some (v, s.o)
  | _ => none
theorem sn_var {i : Nat} : Sn (tVar i) (mVar i) := by
  intro Z M s σ H h r o' e Q q
  unfold mVar at e
  split at e
  · rename_i v hv
    cases e
    obtain ⟨u, h1, h2⟩ := h.sl i _ hv
    exact ⟨u, h1, q M u H (Ex2.refl M H) h h2⟩
  · cases e
def mC (d : D) : EM := fun s => some (.d d, s.o)
def mW (v : V) : EM := fun s => some (.w v, s.o)
theorem sn_w {v : V} : Sn (tC v) (mW v) := by
  intro Z M s σ H h r o' e Q q
  cases e
  exact q M v H (Ex2.refl M H) h rfl
theorem sn_int {i : Int} : Sn (tC (.int i)) (mC (.int i)) := by
  intro Z M s σ H h r o' e Q q
  cases e
  exact q M _ H (Ex2.refl M H) h (.int i)
theorem sn_str {i : Str} : Sn (tC (.str i)) (mC (.str i)) := by
  intro Z M s σ H h r o' e Q q
  cases e
  exact q M _ H (Ex2.refl M H) h (.str i)
theorem sn_bl {i : Bool} : Sn (tC (.bl i)) (mC (.bool i)) := by
  intro Z M s σ H h r o' e Q q
  cases e
  exact q M _ H (Ex2.refl M H) h (.bl i)
theorem sn_non : Sn (tC .non) (mC .none) := by
  intro Z M s σ H h r o' e Q q
  cases e
  exact q M _ H (Ex2.refl M H) h .non
/-! operators -/
def mOp (g : D → D → Option D) (a b : EM) : EM := fun s => match a s with
  | none => none
  | some (x, o1) => match b (s.on o1) with
    | none => none
    | some (y, o2) => match vw o2 x, vw o2 y with
      | some d1, some d2 => (match g d1 d2 with
        | some d => some (.d d, o2)
        | none => none)
      | _, _ => none
theorem S.on_on (s : S) (o1 o2 : List MO) : (s.on o1).on o2 = s.on o2 := rfl
theorem S.on_self (s : S) : s.on s.o = s := rfl
theorem sn_op {r : R2} {g : D → D → Option D} {ta tb : TE} {a b : EM} (hr : R2D r g) (ha : Sn ta a) (hb : Sn tb b) : Sn (tOp r ta tb) (mOp g a b) := by
  intro Z M s σ H h w o' e Q q
  unfold mOp at e
  cases ea : a s with
  | none => rw [ea] at e; cases e
  | some p =>
    obtain ⟨x, o1⟩ := p
    rw [ea] at e
    refine ha Z M s σ H h x o1 ea _ fun M1 v1 H1 e1 h1 r1 => ?_
    simp only at e
    cases eb : b (s.on o1) with
    | none => rw [eb] at e; cases e
    | some p2 =>
      obtain ⟨y, o2⟩ := p2
      rw [eb] at e
      refine hb Z M1 (s.on o1) σ H1 h1 y o2 eb _ fun M2 v2 H2 e2 h2 r2 => ?_
      simp only at e
      split at e
      · rename_i d1 d2 w1 w2
        split at e
        · rename_i d hd
          cases e
          refine hr (zz Z M2) H2 h2.r.zzd v1 v2 d1 d2 d (vw_ok h2.r (e2.rv r1) w1) (vw_ok h2.r r2 w2) hd Q fun v H' n p => ?_
          exact q M2 v H' ((e1.trans e2).trans (Ex2.new n)) (h2.new n) p
        · cases e
      · cases e
def mUn (g : D → Option D) (a : EM) : EM := fun s => match a s with
  | none => none
  | some (x, o1) => match vw o1 x with
    | none => none
    | some d1 => (match g d1 with
      | some d => some (.d d, o1)
      | none => none)
theorem sn_un {r : V → Hp → VK → Prop} {g : D → Option D} {ta : TE} {a : EM} (hr : R1D r g) (ha : Sn ta a) : Sn (tUn r ta) (mUn g a) := by
  intro Z M s σ H h w o' e Q q
  unfold mUn at e
  split at e
  · cases e
  · rename_i x o1 ea
    refine ha Z M s σ H h x o1 ea _ fun M1 v1 H1 e1 h1 r1 => ?_
    split at e
    · cases e
    · rename_i d1 w1
      split at e
      · rename_i d hd
        cases e
        refine hr (zz Z M1) H1 h1.r.zzd v1 d1 d (vw_ok h1.r r1 w1) hd Q fun v H' n p => ?_
        exact q M1 v H' (e1.trans (Ex2.new n)) (h1.new n) p
      · cases e
/-- a op b op c -/
def mChain (g g' : D → D → Option D) (a b c : EM) : EM := fun s => match a s with
  | none => none
  | some (x, o1) => match b (s.on o1) with
    | none => none
    | some (y, o2) => match vw o2 x, vw o2 y with
      | some d1, some d2 => (match g d1 d2 with
        | some (.bool false) => some (.d (.bool false), o2)
        | some (.bool true) => (match c (s.on o2) with
          | none => none
          | some (z, o3) => match vw o3 y, vw o3 z with
            | some d3, some d4 => (match g' d3 d4 with
              | some d => some (.d d, o3)
              | none => none)
            | _, _ => none)
        | _ => none)
      | _, _ => none
theorem sn_chain {r r' : R2} {g g' : D → D → Option D} {ta tb tc : TE} {a b c : EM} (hr : R2D r g) (hr' : R2D r' g') (ha : Sn ta a) (hb : Sn tb b) (hc : Sn tc c) : Sn (tChain r r' ta tb tc) (mChain g g' a b c) := by
  intro Z M s σ H h w o' e Q q
  unfold mChain at e
  split at e
  · cases e
  · rename_i x o1 ea
    refine ha Z M s σ H h x o1 ea _ fun M1 v1 H1 e1 h1 r1 => ?_
    split at e
    · cases e
    · rename_i y o2 eb
      refine hb Z M1 (s.on o1) σ H1 h1 y o2 eb _ fun M2 v2 H2 e2 h2 r2 => ?_
      split at e
      · rename_i d1 d2 w1 w2
        split at e
        · rename_i hd
          cases e
          refine hr (zz Z M2) H2 h2.r.zzd v1 v2 d1 d2 _ (vw_ok h2.r (e2.rv r1) w1) (vw_ok h2.r r2 w2) hd _ fun v H' n p => ?_
          cases p
          exact ⟨false, rfl, by rw [if_neg (by decide)]; exact q M2 _ H' ((e1.trans e2).trans (Ex2.new n)) (h2.new n) (.bl false)⟩
        · rename_i hd
          refine hr (zz Z M2) H2 h2.r.zzd v1 v2 d1 d2 _ (vw_ok h2.r (e2.rv r1) w1) (vw_ok h2.r r2 w2) hd _ fun v H' n p => ?_
          cases p
          refine ⟨true, rfl, ?_⟩
          rw [if_pos rfl]
          split at e
          · cases e
          · rename_i z o3 ec
            refine hc Z M2 (s.on o2) σ H' (h2.new n) z o3 ec _ fun M3 v3 H3 e3 h3 r3 => ?_
            split at e
            · rename_i d3 d4 w3 w4
              split at e
              · rename_i d hd'
                cases e
                refine hr' (zz Z M3) H3 h3.r.zzd v2 v3 d3 d4 d (vw_ok h3.r (e3.rv ((Ex2.new n).rv r2)) w3) (vw_ok h3.r r3 w4) hd' Q fun v H'' n' p => ?_
                exact q M3 v H'' ((((e1.trans e2).trans (Ex2.new n)).trans e3).trans (Ex2.new n')) (h3.new n') p
              · cases e
            · cases e
        · cases e
      · cases e
/-! truth -/
def truD : D → Option Bool
  | .none => some false
  | .bool b => some b
  | .int i => some (i != 0)
  | .str x => if x.length ≤ 100000 then some (x.length != 0) else none
  | .list ds => some (!ds.isEmpty)
  | .tuple ds => some (!ds.isEmpty)
  | .dict ps => some (!ps.isEmpty)
theorem small_line {n : Nat} (h : n ≤ 100000) : n ≤ sizeLine := Nat.le_trans h (by rw [sizeLine_eq]; decide)
theorem empA {Z : Zs} {H : Hp} {xs : List V} {ds : List D} (r : RpA Z H xs ds) : (!xs.isEmpty) = !ds.isEmpty := by cases r <;> rfl
theorem empK {Z : Zs} {H : Hp} {xs : List (Key × V)} {ds : List (D × D)} (r : RpK Z H xs ds) : (!xs.isEmpty) = !ds.isEmpty := by cases r <;> rfl
theorem tru_of {K : PySem.W.Frag} {Z : Zs} {H : Hp} {v : V} {d : D} {k : Bool} (h : Rt Z H v d) (e : truD d = some k) : TruV K v H k := by
  cases d with
  | none => cases h; cases e; rfl
  | bool b => cases h; cases e; rfl
  | int i => cases h; cases e; rfl
  | str x =>
    cases h
    simp only [truD] at e
    split at e
    · rename_i hl
      cases e
      refine ⟨small_line hl, ?_⟩
      cases hx : x.length with
      | zero => rfl
      | succ n =>
        have h2 : (((n + 1 : Nat) : Int) != 0) = true := by
          rw [bne_iff_ne]; omega
        rw [h2]; rfl
    · cases e
  | list ds => obtain ⟨a, xs, rfl, q, r⟩ := h; cases e; exact .inl ⟨xs, SqL.of q, (empA r).symm⟩
  | tuple ds => obtain ⟨a, xs, rfl, q, r, _⟩ := h; cases e; exact .inr (.inl ⟨xs, SqT.of q, (empA r).symm⟩)
  | dict ps => obtain ⟨a, xs, rfl, q, r⟩ := h; cases e; exact .inr (.inr ⟨xs, q, (empK r).symm⟩)
def tTr (K : PySem.W.Frag) (ta : TE) : TT := fun σ H Q => ta σ H fun x H' => ∃ k, TruV K x H' k ∧ Q k H'
theorem pt_tr {X : Cx} {a : Expr} {ta : TE} (ha : PE X a ta) (he : ∀ whole, isTrue a X.env whole = (do let v ← whole; standAt a.pos; holding [v] (truthy v)) := by intro _; rfl) : PT X a (tTr X.K ta) := pt_truth ha he
def mTr (a : EM) : TM := fun s => match a s with
  | none => none
  | some (x, o1) => match vw o1 x with
    | none => none
    | some d => (match truD d with
      | none => none
      | some k => some (k, o1))
theorem sn_tr {K : PySem.W.Frag} {ta : TE} {a : EM} (ha : Sn ta a) : SnT (tTr K ta) (mTr a) := by
  intro Z M s σ H h w o' e Q q
  unfold mTr at e
  split at e
  · cases e
  · rename_i x o1 ea
    refine ha Z M s σ H h x o1 ea _ fun M1 v1 H1 e1 h1 r1 => ?_
    split at e
    · cases e
    · rename_i d hd
      split at e
      · cases e
      · rename_i k hk
        cases e
        exact ⟨_, tru_of (vw_ok h1.r r1 hd) hk, q M1 H1 e1 h1⟩
/-- a comparison as a test -/
def mTest (a : EM) : TM := fun s => match a s with
  | some (.d (.bool k), o1) => some (k, o1)
  | _ => none
theorem sn_test {ta : TE} {a : EM} (ha : Sn ta a) : SnT (tTest ta) (mTest a) := by
  intro Z M s σ H h w o' e Q q
  unfold mTest at e
  split at e
  · rename_i k o1 ea
    cases e
    refine ha Z M s σ H h _ _ ea _ fun M1 v1 H1 e1 h1 r1 => ?_
    have r2 : Rp (zz Z M1) H1 v1 (.bool w) := r1
    cases r2
    exact ⟨w, rfl, q M1 H1 e1 h1⟩
  · cases e
def mAnd (a b : TM) : TM := fun s => match a s with
  | none => none
  | some (false, o1) => some (false, o1)
  | some (true, o1) => b (s.on o1)
def mOr (a b : TM) : TM := fun s => match a s with
  | none => none
  | some (true, o1) => some (true, o1)
  | some (false, o1) => b (s.on o1)
def mNot (a : TM) : TM := fun s => match a s with
  | none => none
  | some (k, o1) => some (!k, o1)
theorem sn_and {ta tb : TT} {a b : TM} (ha : SnT ta a) (hb : SnT tb b) : SnT (tAnd ta tb) (mAnd a b) := by
  intro Z M s σ H h w o' e Q q
  unfold mAnd at e
  split at e
  · cases e
  · rename_i o1 ea
    cases e
    refine ha Z M s σ H h _ _ ea _ fun M1 H1 e1 h1 => ?_
    rw [if_neg (by decide)]
    exact q M1 H1 e1 h1
  · rename_i o1 ea
    refine ha Z M s σ H h _ _ ea _ fun M1 H1 e1 h1 => ?_
    rw [if_pos rfl]
    exact hb Z M1 (s.on o1) σ H1 h1 w o' e Q fun M2 H2 e2 h2 => q M2 H2 (e1.trans e2) h2
theorem sn_or {ta tb : TT} {a b : TM} (ha : SnT ta a) (hb : SnT tb b) : SnT (tOr ta tb) (mOr a b) := by
  intro Z M s σ H h w o' e Q q
  unfold mOr at e
  split at e
  · cases e
  · rename_i o1 ea
    cases e
    refine ha Z M s σ H h _ _ ea _ fun M1 H1 e1 h1 => ?_
    rw [if_pos rfl]
    exact q M1 H1 e1 h1
  · rename_i o1 ea
    refine ha Z M s σ H h _ _ ea _ fun M1 H1 e1 h1 => ?_
    rw [if_neg (by decide)]
    exact hb Z M1 (s.on o1) σ H1 h1 w o' e Q fun M2 H2 e2 h2 => q M2 H2 (e1.trans e2) h2
theorem sn_not {ta : TT} {a : TM} (ha : SnT ta a) : SnT (tNot ta) (mNot a) := by
  intro Z M s σ H h w o' e Q q
  unfold mNot at e
  split at e
  · cases e
  · rename_i k o1 ea
    cases e
    exact ha Z M s σ H h _ _ ea _ fun M1 H1 e1 h1 => q M1 H1 e1 h1
/-! and, or, not as values -/
def mAndV (a b : EM) : EM := fun s => match a s with
  | none => none
  | some (x, o1) => match vw o1 x with
    | none => none
    | some d => (match truD d with
      | none => none
      | some true => b (s.on o1)
      | some false => some (x, o1))
def mOrV (a b : EM) : EM := fun s => match a s with
  | none => none
  | some (x, o1) => match vw o1 x with
    | none => none
    | some d => (match truD d with
      | none => none
      | some false => b (s.on o1)
      | some true => some (x, o1))
def mNotV (a : EM) : EM := fun s => match a s with
  | none => none
  | some (x, o1) => match vw o1 x with
    | none => none
    | some d => (match truD d with
      | none => none
      | some k => some (.d (.bool (!k)), o1))
theorem sn_andV {K : PySem.W.Frag} {ta tb : TE} {a b : EM} (ha : Sn ta a) (hb : Sn tb b) : Sn (tAndT K ta tb) (mAndV a b) := by
  intro Z M s σ H h w o' e Q q
  unfold mAndV at e
  split at e
  · cases e
  · rename_i x o1 ea
    refine ha Z M s σ H h x o1 ea _ fun M1 v1 H1 e1 h1 r1 => ?_
    split at e
    · cases e
    · rename_i d hd
      split at e
      · cases e
      · rename_i hk
        refine ⟨_, tru_of (vw_ok h1.r r1 hd) hk, ?_⟩
        rw [if_pos rfl]
        exact hb Z M1 (s.on o1) σ H1 h1 w o' e Q fun M2 v2 H2 e2 h2 r2 => q M2 v2 H2 (e1.trans e2) h2 r2
      · rename_i hk
        cases e
        refine ⟨_, tru_of (vw_ok h1.r r1 hd) hk, ?_⟩
        rw [if_neg (by decide)]
        exact q M1 v1 H1 e1 h1 r1
theorem sn_orV {K : PySem.W.Frag} {ta tb : TE} {a b : EM} (ha : Sn ta a) (hb : Sn tb b) : Sn (tOrT K ta tb) (mOrV a b) := by
  intro Z M s σ H h w o' e Q q
  unfold mOrV at e
  split at e
  · cases e
  · rename_i x o1 ea
    refine ha Z M s σ H h x o1 ea _ fun M1 v1 H1 e1 h1 r1 => ?_
    split at e
    · cases e
    · rename_i d hd
      split at e
      · cases e
      · rename_i hk
        refine ⟨_, tru_of (vw_ok h1.r r1 hd) hk, ?_⟩
        rw [if_neg (by decide)]
        exact hb Z M1 (s.on o1) σ H1 h1 w o' e Q fun M2 v2 H2 e2 h2 r2 => q M2 v2 H2 (e1.trans e2) h2 r2
      · rename_i hk
        cases e
        refine ⟨_, tru_of (vw_ok h1.r r1 hd) hk, ?_⟩
        rw [if_pos rfl]
        exact q M1 v1 H1 e1 h1 r1
theorem sn_notV {K : PySem.W.Frag} {ta : TE} {a : EM} (ha : Sn ta a) : Sn (tNotT K ta) (mNotV a) := by
  intro Z M s σ H h w o' e Q q
  unfold mNotV at e
  split at e
  · cases e
  · rename_i x o1 ea
    refine ha Z M s σ H h x o1 ea _ fun M1 v1 H1 e1 h1 r1 => ?_
    split at e
    · cases e
    · rename_i d hd
      split at e
      · cases e
      · rename_i k hk
        cases e
        exact ⟨_, tru_of (vw_ok h1.r r1 hd) hk, q M1 _ H1 e1 h1 (.bl _)⟩
def mIf (c : TM) (a b : EM) : EM := fun s => match c s with
  | none => none
  | some (true, o1) => a (s.on o1)
  | some (false, o1) => b (s.on o1)
theorem sn_if {tc : TT} {ta tb : TE} {c : TM} {a b : EM} (hc : SnT tc c) (ha : Sn ta a) (hb : Sn tb b) : Sn (tIf tc ta tb) (mIf c a b) := by
  intro Z M s σ H h w o' e Q q
  unfold mIf at e
  split at e
  · cases e
  · rename_i o1 ec
    refine hc Z M s σ H h _ _ ec _ fun M1 H1 e1 h1 => ?_
    rw [if_pos rfl]
    exact ha Z M1 (s.on o1) σ H1 h1 w o' e Q fun M2 v2 H2 e2 h2 r2 => q M2 v2 H2 (e1.trans e2) h2 r2
  · rename_i o1 ec
    refine hc Z M s σ H h _ _ ec _ fun M1 H1 e1 h1 => ?_
    rw [if_neg (by decide)]
    exact hb Z M1 (s.on o1) σ H1 h1 w o' e Q fun M2 v2 H2 e2 h2 r2 => q M2 v2 H2 (e1.trans e2) h2 r2
/-! argument lists, displays -/
def mNil : AM := fun s => some ([], s.o)
def mCons (a : EM) (r : AM) : AM := fun s => match a s with
  | none => none
  | some (x, o1) => match r (s.on o1) with
    | none => none
    | some (xs, o2) => some (x :: xs, o2)
theorem sn_nil : SnA tNil mNil := by
  intro Z M s σ H h w o' e Q q
  cases e
  exact q M [] H (Ex2.refl M H) h .nil
theorem sn_cons {ta : TE} {tr : TA} {a : EM} {r : AM} (ha : Sn ta a) (hr : SnA tr r) : SnA (tCons ta tr) (mCons a r) := by
  intro Z M s σ H h w o' e Q q
  unfold mCons at e
  split at e
  · cases e
  · rename_i x o1 ea
    refine ha Z M s σ H h x o1 ea _ fun M1 v1 H1 e1 h1 r1 => ?_
    split at e
    · cases e
    · rename_i xs o2 er
      cases e
      refine hr Z M1 (s.on o1) σ H1 h1 _ _ er _ fun M2 vs H2 e2 h2 r2 => ?_
      exact q M2 (v1 :: vs) H2 (e1.trans e2) h2 (.cons (e2.rv r1) r2)
/-- values that are data: they may stand in a new object -/
def dats : List SV → Option (List D)
  | [] => some []
  | .d x :: xs => (match dats xs with
    | some ds => some (x :: ds)
    | none => none)
  | _ :: _ => none
theorem dats_ok {Z : Zs} {M : List Addr} {H : Hp} : ∀ {vs : List V} {xs : List SV} {ds : List D}, RvA Z M H vs xs → dats xs = some ds → RpA (zz Z M) H vs ds
  | _, _, _, .nil, e => by simp only [dats] at e; cases e; exact .nil
  | _, _, _, .cons (x := x) (xs := xs) h t, e => by
    cases x with
    | d x =>
      simp only [dats] at e
      cases e2 : dats xs with
      | none => rw [e2] at e; cases e
      | some ds => rw [e2] at e; cases e; exact .cons h (dats_ok t e2)
    | m k => simp [dats] at e
    | w u => simp [dats] at e
def mTup (a : AM) : EM := fun s => match a s with
  | none => none
  | some (xs, o1) => match dats xs with
    | none => none
    | some ds => if ds.length ≤ 100000 then some (.d (.tuple ds), o1) else none
def mLst (a : AM) : EM := fun s => match a s with
  | none => none
  | some (xs, o1) => match dats xs with
    | none => none
    | some ds => if ds.length ≤ 100000 then some (.d (.list ds), o1) else none
theorem fresh_nz {Z : Zs} {H : Hp} (hz : ∀ a, Z a → H a ≠ none) {p : Addr} (hp : H p = none) : ¬ Z p := fun z => hz p z hp
theorem sn_tup {ta : TA} {a : AM} (ha : SnA ta a) : Sn (tTup ta) (mTup a) := by
  intro Z M s σ H h w o' e Q q
  unfold mTup at e
  split at e
  · cases e
  · rename_i xs o1 ea
    refine ha Z M s σ H h _ _ ea _ fun M1 vs H1 e1 h1 r1 => ?_
    split at e
    · cases e
    · rename_i ds hd
      split at e
      · rename_i hl
        cases e
        have r2 := dats_ok r1 hd
        refine ⟨small_line (by rw [r2.length]; exact hl), fun p hp => ?_⟩
        have n := New.upd (o := .tup vs) hp
        exact q M1 _ _ (e1.trans (Ex2.new n)) (h1.new n) (.tup (fresh_nz h1.r.zzd hp) upd_same (r2.new n))
      · cases e
theorem sn_lst {ta : TA} {a : AM} (ha : SnA ta a) : Sn (tLst ta) (mLst a) := by
  intro Z M s σ H h w o' e Q q
  unfold mLst at e
  split at e
  · cases e
  · rename_i xs o1 ea
    refine ha Z M s σ H h _ _ ea _ fun M1 vs H1 e1 h1 r1 => ?_
    split at e
    · cases e
    · rename_i ds hd
      split at e
      · rename_i hl
        cases e
        have r2 := dats_ok r1 hd
        refine ⟨small_line (by rw [r2.length]; exact hl), fun p hp => ?_⟩
        have n := New.upd (o := .lst vs) hp
        exact q M1 _ _ (e1.trans (Ex2.new n)) (h1.new n) (.lst (fresh_nz h1.r.zzd hp) upd_same (r2.new n))
      · cases e
/-! calls of built-ins -/
def mCB (g : List D → Option D) (a : AM) : EM := fun s => match a s with
  | none => none
  | some (xs, o1) => match vws o1 xs with
    | none => none
    | some ds => (match g ds with
      | some d => some (.d d, o1)
      | none => none)
theorem sn_cb {r : List V → Hp → VK → Prop} {g : List D → Option D} {ta : TA} {a : AM} (hr : RCD r g) (ha : SnA ta a) : Sn (tCB r ta) (mCB g a) := by
  intro Z M s σ H h w o' e Q q
  unfold mCB at e
  split at e
  · cases e
  · rename_i xs o1 ea
    refine ha Z M s σ H h _ _ ea _ fun M1 vs H1 e1 h1 r1 => ?_
    split at e
    · cases e
    · rename_i ds hd
      split at e
      · rename_i d hg
        cases e
        refine hr (zz Z M1) H1 h1.r.zzd vs ds d (vws_ok h1.r r1 hd) hg Q fun v H' n p => ?_
        exact q M1 v H' (e1.trans (Ex2.new n)) (h1.new n) p
      · cases e
/-! slices -/
abbrev OM := S → Option (Option Int × List MO)
def SnO (t : TO) (m : OM) : Prop := ∀ Z M s σ H, Rel Z M s σ H → ∀ r o', m s = some (r, o') → ∀ Q : Option Int → Hp → Prop, (∀ M' H', Ex2 M H M' H' → Rel Z M' (s.on o') σ H' → Q r H') → t σ H Q
def mNoPart : OM := fun s => some (none, s.o)
def mPart (a : EM) : OM := fun s => match a s with
  | some (.d (.int i), o1) => some (some i, o1)
  | _ => none
theorem sn_nopart : SnO tNoPart mNoPart := by
  intro Z M s σ H h w o' e Q q
  cases e
  exact q M H (Ex2.refl M H) h
theorem sn_part {ta : TE} {a : EM} (ha : Sn ta a) : SnO (tPart ta) (mPart a) := by
  intro Z M s σ H h w o' e Q q
  unfold mPart at e
  split at e
  · rename_i i o1 ea
    cases e
    refine ha Z M s σ H h _ _ ea _ fun M1 v1 H1 e1 h1 r1 => ?_
    have r2 : Rp (zz Z M1) H1 v1 (.int i) := r1
    cases r2
    exact ⟨i, rfl, q M1 H1 e1 h1⟩
  · cases e
def RSD (r : V → Option Int → Option Int → Hp → VK → Prop) (g : D → Option Int → Option Int → Option D) : Prop := ∀ (Z : Zs) (H : Hp), (∀ a, Z a → H a ≠ none) → ∀ v1 d1 lo hi d, Rt Z H v1 d1 → g d1 lo hi = some d → ∀ Q : VK, (∀ v H', New H H' → Rp Z H' v d → Q v H') → r v1 lo hi H Q
theorem RSD.or {r r' : V → Option Int → Option Int → Hp → VK → Prop} {g g' : D → Option Int → Option Int → Option D} (h : RSD r g) (h' : RSD r' g') : RSD (fun x l u H Q => r x l u H Q ∨ r' x l u H Q) (fun a l u => oel (g a l u) (g' a l u)) := by
  intro Z H hz v1 d1 lo hi d r1 e Q q
  cases eg : g d1 lo hi with
  | some d' => simp only [oel, eg] at e; exact .inl (h Z H hz v1 d1 lo hi d r1 (by rw [eg]; exact e) Q q)
  | none => simp only [oel, eg] at e; exact .inr (h' Z H hz v1 d1 lo hi d r1 e Q q)
def mSl (g : D → Option Int → Option Int → Option D) (a : EM) (l u : OM) : EM := fun s => match a s with
  | none => none
  | some (x, o1) => match l (s.on o1) with
    | none => none
    | some (lo, o2) => match u (s.on o2) with
      | none => none
      | some (hi, o3) => match vw o3 x with
        | none => none
        | some d1 => (match g d1 lo hi with
          | some d => some (.d d, o3)
          | none => none)
theorem sn_sl {r : V → Option Int → Option Int → Hp → VK → Prop} {g : D → Option Int → Option Int → Option D} {ta : TE} {tl tu : TO} {a : EM} {l u : OM} (hr : RSD r g) (ha : Sn ta a) (hl : SnO tl l) (hu : SnO tu u) : Sn (tSl r ta tl tu) (mSl g a l u) := by
  intro Z M s σ H h w o' e Q q
  unfold mSl at e
  split at e
  · cases e
  · rename_i x o1 ea
    refine ha Z M s σ H h x o1 ea _ fun M1 v1 H1 e1 h1 r1 => ?_
    split at e
    · cases e
    · rename_i lo o2 el
      refine hl Z M1 (s.on o1) σ H1 h1 lo o2 el _ fun M2 H2 e2 h2 => ?_
      split at e
      · cases e
      · rename_i hi o3 eu
        refine hu Z M2 (s.on o2) σ H2 h2 hi o3 eu _ fun M3 H3 e3 h3 => ?_
        split at e
        · cases e
        · rename_i d1 w1
          split at e
          · rename_i d hd
            cases e
            refine hr (zz Z M3) H3 h3.r.zzd v1 d1 lo hi d (vw_ok h3.r (e3.rv (e2.rv r1)) w1) hd Q fun v H' n p => ?_
            exact q M3 v H' (((e1.trans e2).trans e3).trans (Ex2.new n)) (h3.new n) p
          · cases e
end AP

/-! Operators by data. -/
namespace AP
open PySem PySem.Spec PyProof.Rows L2
theorem size_ok {n : Nat} (h : n ≤ 100000) : n ≤ sizeLine := small_line h
/-! ints -/
def g2I (c : Int → Int → Bool) (f : Int → Int → D) : D → D → Option D
  | .int i, .int j => if c i j then some (f i j) else none
  | _, _ => none
theorem g2I_inv {c : Int → Int → Bool} {f : Int → Int → D} {a b d : D} (h : g2I c f a b = some d) : ∃ i j, a = .int i ∧ b = .int j ∧ c i j = true ∧ d = f i j := by
  unfold g2I at h
  split at h
  · split at h
    · rename_i i j hc
      cases h
      exact ⟨i, j, rfl, rfl, hc, rfl⟩
    · cases h
  · cases h
theorem r2_I {C : Int → Int → Prop} {c : Int → Int → Bool} {f : Int → Int → Int} (hc : ∀ i j, c i j = true → C i j) : R2D (rI C fun i j => .int (f i j)) (g2I c fun i j => .int (f i j)) := by
  intro Z H hz v1 v2 d1 d2 d r1 r2 e Q q
  obtain ⟨i, j, rfl, rfl, h1, rfl⟩ := g2I_inv e
  cases r1; cases r2
  exact ⟨i, j, rfl, rfl, hc i j h1, q _ H (New.refl H) (.int _)⟩
theorem r2_I0 {f : Int → Int → Int} : R2D (rI0 fun i j => .int (f i j)) (g2I (fun _ _ => true) fun i j => .int (f i j)) := by
  intro Z H hz v1 v2 d1 d2 d r1 r2 e Q q
  obtain ⟨i, j, rfl, rfl, h1, rfl⟩ := g2I_inv e
  cases r1; cases r2
  exact ⟨i, j, rfl, rfl, q _ H (New.refl H) (.int _)⟩
theorem r2_B0 {f : Int → Int → Bool} : R2D (rI0 fun i j => .bl (f i j)) (g2I (fun _ _ => true) fun i j => .bool (f i j)) := by
  intro Z H hz v1 v2 d1 d2 d r1 r2 e Q q
  obtain ⟨i, j, rfl, rfl, h1, rfl⟩ := g2I_inv e
  cases r1; cases r2
  exact ⟨i, j, rfl, rfl, q _ H (New.refl H) (.bl _)⟩
/-! strs -/
def g2S (f : Str → Str → Option D) : D → D → Option D
  | .str i, .str j => f i j
  | _, _ => none
theorem g2S_inv {f : Str → Str → Option D} {a b d : D} (h : g2S f a b = some d) : ∃ i j, a = .str i ∧ b = .str j ∧ f i j = some d := by
  unfold g2S at h
  split at h
  · exact ⟨_, _, rfl, rfl, h⟩
  · cases h
theorem r2_Sb {f : Str → Str → Bool} : R2D (fun x y H Q => ∃ i j, x = .str i ∧ y = .str j ∧ Q (.bl (f i j)) H) (g2S fun i j => some (.bool (f i j))) := by
  intro Z H hz v1 v2 d1 d2 d r1 r2 e Q q
  obtain ⟨i, j, rfl, rfl, e⟩ := g2S_inv e
  cases r1; cases r2; cases e
  exact ⟨i, j, rfl, rfl, q _ H (New.refl H) (.bl _)⟩
/-! + -/
def gAddS : D → D → Option D := g2S fun i j => if i.length + j.length ≤ 100000 then some (.str (i ++ j)) else none
theorem r2_addS : R2D (fun x y H Q => ∃ i j, x = .str i ∧ y = .str j ∧ i.length + j.length ≤ sizeLine ∧ Q (.str (i ++ j)) H) gAddS := by
  intro Z H hz v1 v2 d1 d2 d r1 r2 e Q q
  obtain ⟨i, j, rfl, rfl, e'⟩ := g2S_inv e
  clear e
  cases r1; cases r2
  split at e'
  · rename_i h
    cases e'
    exact ⟨i, j, rfl, rfl, size_ok h, q _ H (New.refl H) (.str _)⟩
  · cases e'
def gAddL : D → D → Option D
  | .list xs, .list ys => if xs.length + ys.length ≤ 100000 then some (.list (xs ++ ys)) else none
  | _, _ => none
theorem r2_addL : R2D rCat gAddL := by
  intro Z H hz v1 v2 d1 d2 d r1 r2 e Q q
  unfold gAddL at e
  split at e
  · split at e
    · rename_i xs ys h
      cases e
      obtain ⟨a, us, rfl, ha, ra⟩ := r1
      obtain ⟨b, ws, rfl, hb, rb⟩ := r2
      refine ⟨a, b, us, ws, rfl, rfl, ha, hb, size_ok (by rw [ra.length, rb.length]; exact h), fun p hp => ?_⟩
      have n := New.upd (o := .lst (us ++ ws)) hp
      exact q _ _ n (.lst (fresh_nz hz hp) upd_same ((ra.append rb).new n))
    · cases e
  · cases e
def gAddT : D → D → Option D
  | .tuple xs, .tuple ys => if xs.length + ys.length ≤ 100000 then some (.tuple (xs ++ ys)) else none
  | _, _ => none
theorem rpA_nil {Z : Zs} {H : Hp} {us : List V} {xs : List D} (r : RpA Z H us xs) : us = [] ↔ xs = [] := by
  cases r <;> simp
theorem r2_addT {K : PySem.W.Frag} : R2D (rCatA K) gAddT := by
  intro Z H hz v1 v2 d1 d2 d r1 r2 e Q q
  unfold gAddT at e
  split at e
  · split at e
    · rename_i xs ys h
      cases e
      obtain ⟨a, us, rfl, ha, ra, na⟩ := r1
      obtain ⟨b, ws, rfl, hb, rb, nb⟩ := r2
      refine ⟨a, b, us, ws, rfl, rfl, SqT.of ha, SqT.of hb, size_ok (by rw [ra.length, rb.length]; exact h), fun e => ?_, fun _ e => ?_, fun _ _ p hp => ?_⟩
      · have e2 := (rpA_nil ra).mp e
        subst e2
        exact q _ H (New.refl H) (.tup nb hb rb)
      · have e2 := (rpA_nil rb).mp e
        subst e2
        rw [List.append_nil] at q
        exact q _ H (New.refl H) (.tup na ha ra)
      · have n := New.upd (o := .tup (us ++ ws)) hp
        exact q _ _ n (.tup (fresh_nz hz hp) upd_same ((ra.append rb).new n))
    · cases e
  · cases e
/-! eq, ne -/
def shp (d : D) : Bool := noD d && SeqAt.shaped d
def gEq : D → D → Option D
  | .str x, .str y => some (.bool (decide (x = y)))
  | a, b => if shp a && shp b then some (.bool (PyData.eqv a b)) else none
def gNe : D → D → Option D
  | .str x, .str y => some (.bool (!decide (x = y)))
  | a, b => if shp a && shp b then some (.bool (!PyData.eqv a b)) else none
theorem dec_str' {x y : Str} : decide (V.str x = V.str y) = decide (x = y) := by
  by_cases h : x = y
  · simp [h]
  · simp [h]
theorem r2_eq {K : PySem.W.Frag} : R2D (fun x y H Q => rEq x y H Q ∨ rEqD K x y H Q) gEq := by
  intro Z H hz v1 v2 d1 d2 d r1 r2 e Q q
  unfold gEq at e
  split at e
  · cases r1; cases r2; cases e
    refine .inl ⟨rfl, ?_⟩
    rw [dec_str']
    exact q _ H (New.refl H) (.bl _)
  · split at e
    · rename_i h
      cases e
      simp only [shp, Bool.and_eq_true] at h
      exact .inr ⟨d1, d2, r1.dp h.1.1, r2.dp h.2.1, h.1.2, h.2.2, q _ H (New.refl H) (.bl _)⟩
    · cases e
theorem r2_ne {K : PySem.W.Frag} : R2D (fun x y H Q => rNe x y H Q ∨ rNeD K x y H Q) gNe := by
  intro Z H hz v1 v2 d1 d2 d r1 r2 e Q q
  unfold gNe at e
  split at e
  · cases r1; cases r2; cases e
    refine .inl ⟨rfl, ?_⟩
    rw [dec_str']
    exact q _ H (New.refl H) (.bl _)
  · split at e
    · rename_i h
      cases e
      simp only [shp, Bool.and_eq_true] at h
      exact .inr ⟨d1, d2, r1.dp h.1.1, r2.dp h.2.1, h.1.2, h.2.2, q _ H (New.refl H) (.bl _)⟩
    · cases e
/-! in, not in -/
def toKey : D → Option Key
  | .int i => some (.inl i)
  | .str x => some (.inr x)
  | _ => none
theorem toKey_inv {d : D} {k : Key} (h : toKey d = some k) : d = kD k := by
  cases d <;> simp [toKey] at h <;> subst h <;> rfl
def getP (ps : List (D × D)) (k : Key) : Option D := match ps with
  | [] => none
  | (a, b) :: r => if toKey a = some k then some b else getP r k
theorem getP_ok {Z : Zs} {H : Hp} : ∀ {kvs : List (Key × V)} {ps : List (D × D)} {k : Key}, RpK Z H kvs ps → (valV kvs k).isSome = (getP ps k).isSome ∧ ∀ d, getP ps k = some d → ∃ v, valV kvs k = some v ∧ Rp Z H v d
  | _, _, _, .nil => ⟨rfl, fun d h => nomatch h⟩
  | _, _, k, .cons (k := k') (kvs := kvs) (ps := ps) h r => by
    have e0 : toKey (kD k') = some k' := by cases k' <;> rfl
    by_cases hk : k' = k
    · subst hk
      rw [valV_pos rfl]
      simp only [getP, e0, if_true]
      exact ⟨rfl, fun d e => by cases e; exact ⟨_, rfl, h⟩⟩
    · rw [valV_neg hk]
      have e1 : ∀ d, getP ((kD k', d) :: ps) k = getP ps k := fun d => by
        simp only [getP, e0]
        rw [if_neg]
        intro z; exact hk (Option.some.inj z)
      rw [e1]
      exact getP_ok r
def gInB : D → D → Option Bool
  | .str x, .str y => (match x.cps.toList with
    | [c] => some (decide (c ∈ y.cps.toList))
    | _ => none)
  | x, .list ys => if shp x && shp (.list ys) then some (ys.any fun z => PyData.eqv z x) else none
  | x, .tuple ys => if shp x && shp (.tuple ys) then some (ys.any fun z => PyData.eqv z x) else none
  | x, .dict ps => (match toKey x with
    | some k => some (getP ps k).isSome
    | none => none)
  | _, _ => none
def gIn (a b : D) : Option D := (gInB a b).map PyData.bool
def gNotIn (a b : D) : Option D := (gInB a b).map fun k => PyData.bool (!k)
/-- x in y, for each kind of y -/
def rInA (K : PySem.W.Frag) (f : Bool → Bool) : R2 := fun x y H Q =>
  (∃ (c : Nat) (z : Str), x = .str ⟨#[c]⟩ ∧ y = .str z ∧ Q (.bl (f (decide (c ∈ z.cps.toList)))) H) ∨
  (∃ d ds, Dp K H x d ∧ Dp K H y (.list ds) ∧ SeqAt.shaped d = true ∧ SeqAt.shaped (.list ds) = true ∧ Q (.bl (f (ds.any fun z => PyData.eqv z d))) H) ∨
  (∃ d ds, Dp K H x d ∧ Dp K H y (.tuple ds) ∧ SeqAt.shaped d = true ∧ SeqAt.shaped (.tuple ds) = true ∧ Q (.bl (f (ds.any fun z => PyData.eqv z d))) H) ∨
  (∃ a o, y = .ref a ∧ DGet H a x o ∧ Q (.bl (f o.isSome)) H)
theorem op_inA {X : Cx} (hu : X.A.units + 65 < cLine) : OpR X (compareOp .In) (rInA X.K fun b => b) := by
  intro pins s σ H x y v u Q I rx ry h
  rcases h with ⟨c, z, h1, h2, q⟩ | ⟨d, ds, h1, h2, h3, h4, q⟩ | ⟨d, ds, h1, h2, h3, h4, q⟩ | ⟨a, o, h1, h2, q⟩
  · exact op_in_sign pins s σ H x y v u Q I rx ry ⟨c, z, h1, h2, q⟩
  · exact op_inD hu pins s σ H x y v u Q I rx ry ⟨d, ds, h1, h2, h3, h4, q⟩
  · obtain ⟨as, r1⟩ := Dp.reads I d x v h1 rx
    obtain ⟨bs, r2⟩ := Dp.reads I (.tuple ds) y u h2 ry
    exact SeqAt.in_tuple_reads r2 r1 (SeqAt.canLay_of_shaped h4) (SeqAt.canLay_of_shaped h3) (room_in_shaped h3 hu) ⟨.bl _, H, I, rfl, q⟩
  · subst h1
    cases ry
    exact d_in (by omega) I h2 rx fun s' I' => ⟨.bl _, H, I', rfl, q⟩
theorem op_notInA {X : Cx} (hu : X.A.units + 65 < cLine) : OpR X (compareOp .NotIn) (rInA X.K fun b => !b) := by
  intro pins s σ H x y v u Q I rx ry h
  rcases h with ⟨c, z, h1, h2, q⟩ | ⟨d, ds, h1, h2, h3, h4, q⟩ | ⟨d, ds, h1, h2, h3, h4, q⟩ | ⟨a, o, h1, h2, q⟩
  · exact op_notIn_sign pins s σ H x y v u Q I rx ry ⟨c, z, h1, h2, q⟩
  · exact op_notInD hu pins s σ H x y v u Q I rx ry ⟨d, ds, h1, h2, h3, h4, q⟩
  · obtain ⟨as, r1⟩ := Dp.reads I d x v h1 rx
    obtain ⟨bs, r2⟩ := Dp.reads I (.tuple ds) y u h2 ry
    exact SeqAt.notIn_tuple_reads r2 r1 (SeqAt.canLay_of_shaped h4) (SeqAt.canLay_of_shaped h3) (room_in_shaped h3 hu) ⟨.bl _, H, I, rfl, q⟩
  · subst h1
    cases ry
    exact d_notIn (by omega) I h2 rx fun s' I' => ⟨.bl _, H, I', rfl, q⟩
theorem key_rt {Z : Zs} {H : Hp} {v : V} {d : D} {k : Key} (h : Rt Z H v d) (e : toKey d = some k) : v = kV k := by
  have e2 := toKey_inv e
  subst e2
  cases k <;> exact h
theorem r2_in {K : PySem.W.Frag} {f : Bool → Bool} : R2D (rInA K f) (fun a b => (gInB a b).map fun k => PyData.bool (f k)) := by
  intro Z H hz v1 v2 d1 d2 d r1 r2 e Q q
  obtain ⟨k, e1, rfl⟩ := Option.map_eq_some_iff.mp e
  have q' : ∀ b, b = k → Q (.bl (f b)) H := fun b hb => by subst hb; exact q _ H (New.refl H) (.bl _)
  unfold gInB at e1
  split at e1
  · rename_i x y
    split at e1
    · rename_i c hc
      cases e1
      cases r1; cases r2
      have ex : x = ⟨#[c]⟩ := by
        cases x with
        | mk cps =>
          have : cps = #[c] := by
            apply Array.toList_inj.mp
            simpa using hc
          rw [this]
      subst ex
      exact .inl ⟨c, y, rfl, rfl, q' _ rfl⟩
    · cases e1
  · split at e1
    · rename_i x ys h
      cases e1
      simp only [shp, Bool.and_eq_true] at h
      exact .inr (.inl ⟨d1, ys, r1.dp h.1.1, r2.dp h.2.1, h.1.2, h.2.2, q' _ rfl⟩)
    · cases e1
  · split at e1
    · rename_i x ys h
      cases e1
      simp only [shp, Bool.and_eq_true] at h
      exact .inr (.inr (.inl ⟨d1, ys, r1.dp h.1.1, r2.dp h.2.1, h.1.2, h.2.2, q' _ rfl⟩))
    · cases e1
  · split at e1
    · rename_i x ps k' hk
      cases e1
      obtain ⟨a, kvs, rfl, ha, ra⟩ := r2
      have hv := key_rt r1 hk
      subst hv
      exact .inr (.inr (.inr ⟨a, _, rfl, DGet.k ha, by rw [(getP_ok ra).1]; exact q' _ rfl⟩))
    · cases e1
  · cases e1
/-! subscripts -/
def rIxK : R2 := fun x y H Q => ∃ a k kvs v, x = .ref a ∧ y = kV k ∧ H a = some (.dK kvs) ∧ valV kvs k = some v ∧ Q v H
theorem ix_dK {X : Cx} (hu : X.A.units + 64 < cLine) : IxR X rIxK := by
  intro value slice pins s σ H x y v u Q I rx ry h hs
  obtain ⟨a, k, kvs, w, rfl, rfl, ha, hv, q⟩ := h
  cases rx
  have g : DGet H a (kV k) (some w) := by rw [← hv]; exact DGet.k ha
  exact tail_any (dict_typeIs I g) PySem.F.slot_dict_getitem.lookup (d_getItem (by omega) I g ry fun w' s' I' r' => ⟨w, H, I', r', q⟩) hs
def rIxA (K : PySem.W.Frag) : R2 := fun x y H Q => rIx K x y H Q ∨ rIxK x y H Q
theorem ix_A {X : Cx} (hu : X.A.units + 64 < cLine) : IxR X (rIxA X.K) := ix_seq.or (ix_dK hu)
def gIx : D → D → Option D
  | .list xs, .int i => atI xs i
  | .tuple xs, .int i => atI xs i
  | .str z, .int i => if z.length ≤ 100000 then (atI z.cps.toList i).map fun c => PyData.str ⟨#[c]⟩ else none
  | .dict ps, d => (match toKey d with
    | some k => getP ps k
    | none => none)
  | _, _ => none
theorem atI_inv {α : Type} {xs : List α} {i : Int} {x : α} (h : atI xs i = some x) : ∃ j, ixN xs.length i = some j ∧ xs[j]? = some x := by
  unfold atI at h
  obtain ⟨j, h1, h2⟩ := Option.bind_eq_some_iff.mp h
  exact ⟨j, h1, h2⟩
theorem atI_rp {Z : Zs} {H : Hp} {us : List V} {xs : List D} {i : Int} {d : D} (r : RpA Z H us xs) (h : atI xs i = some d) : ∃ v, atI us i = some v ∧ Rp Z H v d := by
  obtain ⟨j, h1, h2⟩ := atI_inv h
  obtain ⟨v, h3, h4⟩ := r.get h2
  refine ⟨v, ?_, h4⟩
  unfold atI
  rw [r.length, h1]
  exact h3
theorem r2_ix {K : PySem.W.Frag} : R2D (rIxA K) gIx := by
  intro Z H hz v1 v2 d1 d2 d r1 r2 e Q q
  unfold gIx at e
  split at e
  · rename_i xs i
    obtain ⟨a, us, rfl, ha, ra⟩ := r1
    cases r2
    obtain ⟨v, h1, h2⟩ := atI_rp ra e
    exact .inl (.inl ⟨a, us, i, v, rfl, rfl, SqL.of ha, h1, q v H (New.refl H) h2⟩)
  · rename_i xs i
    obtain ⟨a, us, rfl, ha, ra, _⟩ := r1
    cases r2
    obtain ⟨v, h1, h2⟩ := atI_rp ra e
    exact .inl (.inr (.inl ⟨a, us, i, v, rfl, rfl, SqT.of ha, h1, q v H (New.refl H) h2⟩))
  · rename_i z i
    split at e
    · rename_i hl
      obtain ⟨c, h1, h2⟩ := Option.map_eq_some_iff.mp e
      subst h2
      cases r1
      cases r2
      exact .inl (.inr (.inr ⟨z, i, c, rfl, rfl, size_ok hl, h1, q _ H (New.refl H) (.str _)⟩))
    · cases e
  · rename_i ps d2'
    split at e
    · rename_i k hk
      obtain ⟨a, kvs, rfl, ha, ra⟩ := r1
      have hv := key_rt r2 hk
      subst hv
      obtain ⟨v, h1, h2⟩ := (getP_ok ra).2 d e
      exact .inr ⟨a, k, kvs, v, rfl, rfl, ha, h1, q v H (New.refl H) h2⟩
    · cases e
  · cases e
/-! slices -/
def cutD {α : Type} (xs : List α) (lo hi : Option Int) : List α := (xs.drop (HT.sIx xs.length 0 lo)).take (HT.sIx xs.length xs.length hi - HT.sIx xs.length 0 lo)
theorem cut_rp {Z : Zs} {H : Hp} {us : List V} {xs : List D} (r : RpA Z H us xs) (lo hi : Option Int) : RpA Z H (cutV us lo hi) (cutD xs lo hi) := by
  unfold cutV cutD
  rw [r.length]
  exact (r.drop _).take _
def gSl : D → Option Int → Option Int → Option D
  | .list xs, lo, hi => some (.list (cutD xs lo hi))
  | .tuple xs, lo, hi => some (.tuple (cutD xs lo hi))
  | .str z, lo, hi => if z.length ≤ 100000 then some (.str ⟨(cutD z.cps.toList lo hi).toArray⟩) else none
  | _, _, _ => none
def rSlU (K : PySem.W.Frag) : V → Option Int → Option Int → Hp → VK → Prop := fun x lo hi H Q => rSlL K x lo hi H Q ∨ rSlA K x lo hi H Q ∨ rSlS x lo hi H Q
theorem sl_U {X : Cx} : SlR X (rSlU X.K) := sl_list.or (sl_tupA.or sl_str)
theorem cut_whole {α : Type} (xs : List α) (lo hi : Option Int) (h : HT.sIx xs.length 0 lo = 0 ∧ HT.sIx xs.length xs.length hi = xs.length) : cutD xs lo hi = xs := by
  unfold cutD
  rw [h.1, h.2, List.drop_zero, Nat.sub_zero, List.take_length]
theorem rs_U {K : PySem.W.Frag} : RSD (rSlU K) gSl := by
  intro Z H hz v1 d1 lo hi d r1 e Q q
  unfold gSl at e
  split at e
  · rename_i xs
    cases e
    obtain ⟨a, us, rfl, ha, ra⟩ := r1
    refine .inl ⟨a, us, rfl, SqL.of ha, fun p hp => ?_⟩
    have n := New.upd (o := .lst (cutV us lo hi)) hp
    exact q _ _ n (.lst (fresh_nz hz hp) upd_same ((cut_rp ra lo hi).new n))
  · rename_i xs
    cases e
    obtain ⟨a, us, rfl, ha, ra, na⟩ := r1
    refine .inr (.inl ⟨a, us, rfl, SqT.of ha, fun hw => ?_, fun _ p hp => ?_⟩)
    · rw [ra.length] at hw
      rw [cut_whole xs lo hi hw] at q
      exact q _ H (New.refl H) (.tup na ha ra)
    · have n := New.upd (o := .tup (cutV us lo hi)) hp
      exact q _ _ n (.tup (fresh_nz hz hp) upd_same ((cut_rp ra lo hi).new n))
  · rename_i z
    split at e
    · rename_i hl
      cases e
      cases r1
      refine .inr (.inr ⟨z, rfl, size_ok hl, ?_⟩)
      have ez : cutS z lo hi = ⟨(cutD z.cps.toList lo hi).toArray⟩ := by
        unfold cutS cutD
        have hlen : z.cps.toList.length = z.length := by simp [Str.length]
        rw [hlen]
      rw [ez]
      exact q _ H (New.refl H) (.str _)
    · cases e
  · cases e
end AP

/-! Built-in functions by data. -/
namespace AP
open PySem PySem.Spec PyProof.Rows L2
/-! the order of texts -/
abbrev LeS (x y : Str) : Prop := ltCps y.cps.toList x.cps.toList = false
theorem leS_iff {x y : Str} : LeS x y ↔ x.cps.toList ≤ y.cps.toList := by
  unfold LeS
  rw [ltCps_eq, decide_eq_false_iff_not]
  exact Iff.rfl
theorem leS_trans {x y z : Str} (a : LeS x y) (b : LeS y z) : LeS x z := by
  rw [leS_iff] at *
  exact List.le_trans a b
theorem leS_total (x y : Str) : LeS x y ∨ LeS y x := by
  rw [leS_iff, leS_iff]
  exact List.le_total _ _
theorem str_ext' {x y : Str} (h : x.cps.toList = y.cps.toList) : x = y := by
  cases x with
  | mk a =>
    cases y with
    | mk b =>
      have : a = b := Array.toList_inj.mp h
      rw [this]
theorem leS_anti {x y : Str} (a : LeS x y) (b : LeS y x) : x = y := by
  rw [leS_iff] at *
  exact str_ext' (List.le_antisymm a b)
def insS (x : Str) : List Str → List Str
  | [] => [x]
  | y :: r => if ltCps y.cps.toList x.cps.toList then y :: insS x r else x :: y :: r
def sortS : List Str → List Str
  | [] => []
  | x :: r => insS x (sortS r)
theorem insS_perm (x : Str) : ∀ l : List Str, (insS x l).Perm (x :: l)
  | [] => List.Perm.refl _
  | y :: r => by
    unfold insS
    split
    · exact ((insS_perm x r).cons y).trans (List.Perm.swap x y r)
    · exact List.Perm.refl _
theorem sortS_perm : ∀ l : List Str, (sortS l).Perm l
  | [] => List.Perm.refl _
  | x :: r => (insS_perm x _).trans ((sortS_perm r).cons x)
theorem insS_pw (x : Str) : ∀ l : List Str, l.Pairwise LeS → (insS x l).Pairwise LeS
  | [], _ => by simp [insS]
  | y :: r, h => by
    unfold insS
    rw [List.pairwise_cons] at h
    split
    · rename_i hy
      rw [List.pairwise_cons]
      refine ⟨fun z hz => ?_, insS_pw x r h.2⟩
      rcases List.mem_cons.mp ((insS_perm x r).mem_iff.mp hz) with e | e
      · subst e
        rcases leS_total y z with q | q
        · exact q
        · rw [q] at hy; cases hy
      · exact h.1 z e
    · rename_i hy
      have hxy : LeS x y := by simpa using hy
      rw [List.pairwise_cons]
      refine ⟨fun z hz => ?_, List.pairwise_cons.mpr h⟩
      rcases List.mem_cons.mp hz with e | e
      · subst e; exact hxy
      · exact leS_trans hxy (h.1 z e)
theorem sortS_pw : ∀ l : List Str, (sortS l).Pairwise LeS
  | [] => List.Pairwise.nil
  | x :: r => insS_pw x _ (sortS_pw r)
theorem rising_pw : ∀ (l : List Str) (p : Str), risingS p l = true → (p :: l).Pairwise LeS
  | [], p, _ => by simp
  | x :: r, p, h => by
    simp only [risingS, Bool.and_eq_true, Bool.not_eq_true'] at h
    have h2 := rising_pw r x h.2
    rw [List.pairwise_cons]
    refine ⟨fun z hz => ?_, h2⟩
    rcases List.mem_cons.mp hz with e | e
    · subst e; exact h.1
    · exact leS_trans h.1 ((List.pairwise_cons.mp h2).1 z e)
theorem sorted_pw : ∀ (l : List Str), sortedS l = true → l.Pairwise LeS
  | [], _ => List.Pairwise.nil
  | x :: r, h => rising_pw r x h
theorem sortS_only {ys xs : List Str} (hp : ys.Perm xs) (hs : sortedS ys = true) : ys = sortS xs :=
  List.Perm.eq_of_pairwise (fun _ _ _ _ a b => leS_anti a b) (sorted_pw ys hs) (sortS_pw xs) (hp.trans (sortS_perm xs).symm)
/-! ints in order -/
def insI (x : Int) : List Int → List Int
  | [] => [x]
  | y :: r => if y < x then y :: insI x r else x :: y :: r
def sortI : List Int → List Int
  | [] => []
  | x :: r => insI x (sortI r)
theorem insI_perm (x : Int) : ∀ l : List Int, (insI x l).Perm (x :: l)
  | [] => List.Perm.refl _
  | y :: r => by
    unfold insI
    split
    · exact ((insI_perm x r).cons y).trans (List.Perm.swap x y r)
    · exact List.Perm.refl _
theorem sortI_perm : ∀ l : List Int, (sortI l).Perm l
  | [] => List.Perm.refl _
  | x :: r => (insI_perm x _).trans ((sortI_perm r).cons x)
theorem insI_pw (x : Int) : ∀ l : List Int, l.Pairwise (· ≤ ·) → (insI x l).Pairwise (· ≤ ·)
  | [], _ => by simp [insI]
  | y :: r, h => by
    unfold insI
    rw [List.pairwise_cons] at h
    split
    · rename_i hy
      rw [List.pairwise_cons]
      refine ⟨fun z hz => ?_, insI_pw x r h.2⟩
      rcases List.mem_cons.mp ((insI_perm x r).mem_iff.mp hz) with e | e
      · subst e; omega
      · exact h.1 z e
    · rename_i hy
      rw [List.pairwise_cons]
      refine ⟨fun z hz => ?_, List.pairwise_cons.mpr h⟩
      rcases List.mem_cons.mp hz with e | e
      · subst e; omega
      · have := h.1 z e; omega
theorem sortI_pw : ∀ l : List Int, (sortI l).Pairwise (· ≤ ·)
  | [] => List.Pairwise.nil
  | x :: r => insI_pw x _ (sortI_pw r)
theorem sortI_only {ys xs : List Int} (hp : ys.Perm xs) (hs : ys.Pairwise (· ≤ ·)) : ys = sortI xs :=
  List.Perm.eq_of_pairwise (fun _ _ _ _ a b => Int.le_antisymm a b) hs (sortI_pw xs) (hp.trans (sortI_perm xs).symm)
/-! lists of one kind -/
def strsOf : List D → Option (List Str)
  | [] => some []
  | .str x :: r => (match strsOf r with
    | some l => some (x :: l)
    | none => none)
  | _ :: _ => none
def intsOf : List D → Option (List Int)
  | [] => some []
  | .int x :: r => (match intsOf r with
    | some l => some (x :: l)
    | none => none)
  | _ :: _ => none
def boolsOf : List D → Option (List Bool)
  | [] => some []
  | .bool x :: r => (match boolsOf r with
    | some l => some (x :: l)
    | none => none)
  | _ :: _ => none
theorem strsOf_ok {Z : Zs} {H : Hp} : ∀ {us : List V} {ds : List D} {xs : List Str}, RpA Z H us ds → strsOf ds = some xs → us = xs.map V.str ∧ ds = xs.map PyData.str
  | _, _, _, .nil, e => by simp only [strsOf] at e; cases e; exact ⟨rfl, rfl⟩
  | _, _, _, .cons (d := d) (ds := ds) h r, e => by
    cases d <;> simp only [strsOf] at e <;> try cases e
    cases h
    cases e2 : strsOf ds with
    | none => rw [e2] at e; cases e
    | some l =>
      rw [e2] at e; cases e
      obtain ⟨a, b⟩ := strsOf_ok r e2
      rw [a, b]; exact ⟨rfl, rfl⟩
theorem intsOf_ok {Z : Zs} {H : Hp} : ∀ {us : List V} {ds : List D} {xs : List Int}, RpA Z H us ds → intsOf ds = some xs → us = xs.map V.int ∧ ds = xs.map PyData.int
  | _, _, _, .nil, e => by simp only [intsOf] at e; cases e; exact ⟨rfl, rfl⟩
  | _, _, _, .cons (d := d) (ds := ds) h r, e => by
    cases d <;> simp only [intsOf] at e <;> try cases e
    cases h
    cases e2 : intsOf ds with
    | none => rw [e2] at e; cases e
    | some l =>
      rw [e2] at e; cases e
      obtain ⟨a, b⟩ := intsOf_ok r e2
      rw [a, b]; exact ⟨rfl, rfl⟩
theorem boolsOf_ok {Z : Zs} {H : Hp} : ∀ {us : List V} {ds : List D} {xs : List Bool}, RpA Z H us ds → boolsOf ds = some xs → us = xs.map V.bl ∧ ds = xs.map PyData.bool
  | _, _, _, .nil, e => by simp only [boolsOf] at e; cases e; exact ⟨rfl, rfl⟩
  | _, _, _, .cons (d := d) (ds := ds) h r, e => by
    cases d <;> simp only [boolsOf] at e <;> try cases e
    cases h
    cases e2 : boolsOf ds with
    | none => rw [e2] at e; cases e
    | some l =>
      rw [e2] at e; cases e
      obtain ⟨a, b⟩ := boolsOf_ok r e2
      rw [a, b]; exact ⟨rfl, rfl⟩
theorem rpA_strs {Z : Zs} {H : Hp} : ∀ xs : List Str, RpA Z H (xs.map V.str) (xs.map PyData.str)
  | [] => .nil
  | x :: r => .cons (.str x) (rpA_strs r)
theorem rpA_ints {Z : Zs} {H : Hp} : ∀ xs : List Int, RpA Z H (xs.map V.int) (xs.map PyData.int)
  | [] => .nil
  | x :: r => .cons (.int x) (rpA_ints r)
/-! len -/
def gLen : List D → Option D
  | [.str x] => if x.length ≤ 100000 then some (.int x.length) else none
  | [.list ds] => some (.int ds.length)
  | [.tuple ds] => some (.int ds.length)
  | [.dict ds] => some (.int ds.length)
  | _ => none
def rLenA (K : PySem.W.Frag) : List V → Hp → VK → Prop := fun xs H Q => (∃ x n, xs = [x] ∧ LenV K x H n ∧ Q (.int n) H) ∨ ∃ a kvs, xs = [V.ref a] ∧ H a = some (.dK kvs) ∧ Q (.int kvs.length) H
theorem call_lenA {X : Cx} : CallR X (.builtin "len") (rLenA X.K) := call_len.or call_lenD
theorem rc_len {K : PySem.W.Frag} : RCD (rLenA K) gLen := by
  intro Z H hz vs ds d r e Q q
  unfold gLen at e
  split at e
  · rename_i x
    split at e
    · rename_i hl
      cases e
      cases r with
      | cons h t => cases t; cases h; exact .inl ⟨_, _, rfl, ⟨size_ok hl, rfl⟩, q _ H (New.refl H) (.int _)⟩
    · cases e
  · cases e
    cases r with
    | cons h t =>
      cases t
      obtain ⟨a, us, rfl, ha, ra⟩ := h
      exact .inl ⟨_, us.length, rfl, .inl ⟨us, SqL.of ha, rfl⟩, by rw [ra.length]; exact q _ H (New.refl H) (.int _)⟩
  · cases e
    cases r with
    | cons h t =>
      cases t
      obtain ⟨a, us, rfl, ha, ra, _⟩ := h
      exact .inl ⟨_, us.length, rfl, .inr ⟨us, SqT.of ha, rfl⟩, by rw [ra.length]; exact q _ H (New.refl H) (.int _)⟩
  · cases e
    cases r with
    | cons h t =>
      cases t
      obtain ⟨a, us, rfl, ha, ra⟩ := h
      exact .inr ⟨a, us, rfl, ha, by rw [ra.length]; exact q _ H (New.refl H) (.int _)⟩
  · cases e
/-! tuple, list -/
def gTuple : List D → Option D
  | [.list ds] => some (.tuple ds)
  | [.tuple ds] => some (.tuple ds)
  | _ => none
theorem rc_tuple {K : PySem.W.Frag} : RCD (fun xs H Q => ∃ p ys, xs = [.ref p] ∧ ((SqL K H p ys ∧ ∀ l, H l = none → Q (.ref l) (upd H l (.tup ys))) ∨ (SqT K H p ys ∧ Q (.ref p) H))) gTuple := by
  intro Z H hz vs ds d r e Q q
  unfold gTuple at e
  split at e
  · cases e
    cases r with
    | cons h t =>
      cases t
      obtain ⟨a, us, rfl, ha, ra⟩ := h
      refine ⟨a, us, rfl, .inl ⟨SqL.of ha, fun p hp => ?_⟩⟩
      have n := New.upd (o := .tup us) hp
      exact q _ _ n (.tup (fresh_nz hz hp) upd_same (ra.new n))
  · cases e
    cases r with
    | cons h t =>
      cases t
      obtain ⟨a, us, rfl, ha, ra, na⟩ := h
      exact ⟨a, us, rfl, .inr ⟨SqT.of ha, q _ H (New.refl H) (.tup na ha ra)⟩⟩
  · cases e
def gList : List D → Option D
  | [.list ds] => some (.list ds)
  | [.tuple ds] => some (.list ds)
  | _ => none
theorem rc_list {K : PySem.W.Frag} : RCD (fun xs H Q => ∃ p ys, xs = [.ref p] ∧ (SqL K H p ys ∨ SqT K H p ys) ∧ ∀ l, H l = none → Q (.ref l) (upd H l (.lst ys))) gList := by
  intro Z H hz vs ds d r e Q q
  unfold gList at e
  split at e
  · cases e
    cases r with
    | cons h t =>
      cases t
      obtain ⟨a, us, rfl, ha, ra⟩ := h
      refine ⟨a, us, rfl, .inl (SqL.of ha), fun p hp => ?_⟩
      have n := New.upd (o := .lst us) hp
      exact q _ _ n (.lst (fresh_nz hz hp) upd_same (ra.new n))
  · cases e
    cases r with
    | cons h t =>
      cases t
      obtain ⟨a, us, rfl, ha, ra, na⟩ := h
      refine ⟨a, us, rfl, .inr (SqT.of ha), fun p hp => ?_⟩
      have n := New.upd (o := .lst us) hp
      exact q _ _ n (.lst (fresh_nz hz hp) upd_same (ra.new n))
  · cases e
/-! all, any -/
def gAll : List D → Option D
  | [.list ds] => (match boolsOf ds with
    | some bs => some (.bool (bs.all id))
    | none => none)
  | _ => none
def gAny : List D → Option D
  | [.list ds] => (match boolsOf ds with
    | some bs => some (.bool (bs.any id))
    | none => none)
  | _ => none
theorem rc_all {K : PySem.W.Frag} : RCD (rAll K) gAll := by
  intro Z H hz vs ds d r e Q q
  unfold gAll at e
  split at e
  · split at e
    · rename_i bs hb
      cases e
      cases r with
      | cons h t =>
        cases t
        obtain ⟨a, us, rfl, ha, ra⟩ := h
        obtain ⟨e1, _⟩ := boolsOf_ok ra hb
        exact ⟨a, bs, rfl, SqL.of (by rw [← e1]; exact ha), q _ H (New.refl H) (.bl _)⟩
    · cases e
  · cases e
theorem rc_any {K : PySem.W.Frag} : RCD (rAny K) gAny := by
  intro Z H hz vs ds d r e Q q
  unfold gAny at e
  split at e
  · split at e
    · rename_i bs hb
      cases e
      cases r with
      | cons h t =>
        cases t
        obtain ⟨a, us, rfl, ha, ra⟩ := h
        obtain ⟨e1, _⟩ := boolsOf_ok ra hb
        exact ⟨a, bs, rfl, SqL.of (by rw [← e1]; exact ha), q _ H (New.refl H) (.bl _)⟩
    · cases e
  · cases e
/-! int -/
def gInt : List D → Option D
  | [.int i] => some (.int i)
  | [.bool k] => some (.int (if k then 1 else 0))
  | _ => none
theorem rc_int : RCD (fun xs H Q => (∃ i, xs = [.int i] ∧ Q (.int i) H) ∨ ∃ k, xs = [.bl k] ∧ Q (.int (if k then 1 else 0)) H) gInt := by
  intro Z H hz vs ds d r e Q q
  unfold gInt at e
  split at e
  · cases e
    cases r with
    | cons h t => cases t; cases h; exact .inl ⟨_, rfl, q _ H (New.refl H) (.int _)⟩
  · cases e
    cases r with
    | cons h t => cases t; cases h; exact .inr ⟨_, rfl, q _ H (New.refl H) (.int _)⟩
  · cases e
/-! sorted -/
def gSorted : List D → Option D
  | [.list ds] => (match strsOf ds with
    | some xs => if xs.length < 64 then some (.list ((sortS xs).map PyData.str)) else none
    | none => (match intsOf ds with
      | some xs => if xs.length < 64 then some (.list ((sortI xs).map PyData.int)) else none
      | none => none))
  | _ => none
def rSortA (K : PySem.W.Frag) : List V → Hp → VK → Prop := fun xs H Q => rSortedS K xs H Q ∨ rSorted K xs H Q
theorem cr_sortA {X : Cx} : CallR X (.builtin "sorted") (rSortA X.K) := cr_sortedS.or cr_sorted
theorem rc_sorted {K : PySem.W.Frag} : RCD (rSortA K) gSorted := by
  intro Z H hz vs ds d r e Q q
  unfold gSorted at e
  split at e
  · cases r with
    | cons h t =>
      cases t
      obtain ⟨a, us, rfl, ha, ra⟩ := h
      split at e
      · rename_i xs hs
        split at e
        · rename_i hl
          cases e
          obtain ⟨e1, _⟩ := strsOf_ok ra hs
          refine .inl ⟨a, xs, rfl, SqL.of (by rw [← e1]; exact ha), hl, fun ys p hp hy hn => ?_⟩
          have ey := sortS_only hp hy
          subst ey
          exact q _ _ (New.upd hn) (.lst (fresh_nz hz hn) upd_same (rpA_strs _))
        · cases e
      · split at e
        · rename_i xs hs
          split at e
          · rename_i hl
            cases e
            obtain ⟨e1, _⟩ := intsOf_ok ra hs
            refine .inr ⟨a, xs, rfl, SqL.of (by rw [← e1]; exact ha), hl, fun ys p hp hy hn => ?_⟩
            have ey := sortI_only hp hy
            subst ey
            exact q _ _ (New.upd hn) (.lst (fresh_nz hz hn) upd_same (rpA_ints _))
          · cases e
        · cases e
  · cases e
/-! isinstance -/
def tyOf : D → String
  | .none => "NoneType"
  | .bool _ => "bool"
  | .int _ => "int"
  | .str _ => "str"
  | .list _ => "list"
  | .tuple _ => "tuple"
  | .dict _ => "dict"
theorem ty_rt {K : PySem.W.Frag} {Z : Zs} {H : Hp} {v : V} {d : D} (h : Rt Z H v d) : TyX K H v (.type (tyOf d)) := by
  cases d with
  | none => cases h; exact .base .non
  | bool b => cases h; exact .base (.bl b)
  | int i => cases h; exact .base (.int i)
  | str x => cases h; exact .base (.str x)
  | list ds => obtain ⟨a, xs, rfl, q, r⟩ := h; exact .base (.lst q)
  | tuple ds => obtain ⟨a, xs, rfl, q, r, _⟩ := h; exact .base (.tup q)
  | dict ps => obtain ⟨a, xs, rfl, q, r⟩ := h; exact .base (.dK q)
inductive Ty where
  | int | bool | str | tuple | list | dict
def Ty.nm : Ty → String
  | .int => "int"
  | .bool => "bool"
  | .str => "str"
  | .tuple => "tuple"
  | .list => "list"
  | .dict => "dict"
def isiB : Ty → D → Bool
  | .int, .int _ => true
  | .int, .bool _ => true
  | .bool, .bool _ => true
  | .str, .str _ => true
  | .tuple, .tuple _ => true
  | .list, .list _ => true
  | .dict, .dict _ => true
  | _, _ => false
theorem isi_kit (T : Ty) (d : D) : kitB (tyOf d) T.nm = some (isiB T d) := by
  cases T <;> cases d <;> (simp only [tyOf, Ty.nm, isiB]; decide +kernel)
/-- isinstance(x, T) -/
def mIsi (T : Ty) (a : EM) : EM := fun s => match a s with
  | none => none
  | some (x, o1) => match vw o1 x with
    | none => none
    | some d => some (.d (.bool (isiB T d)), o1)
theorem sn_isi {K : PySem.W.Frag} {T : Ty} {ta : TE} {a : EM} (ha : Sn ta a) : Sn (tCB (rIsi K) (tCons ta (tCons (tC (.ty T.nm)) tNil))) (mIsi T a) := by
  intro Z M s σ H h w o' e Q q
  unfold mIsi at e
  split at e
  · cases e
  · rename_i x o1 ea
    refine ha Z M s σ H h x o1 ea _ fun M1 v1 H1 e1 h1 r1 => ?_
    split at e
    · cases e
    · rename_i d hd
      cases e
      exact ⟨v1, .ty T.nm, _, .type T.nm, _, rfl, .ty T.nm, ty_rt (vw_ok h1.r r1 hd), kit_ty (isi_kit T d), q M1 _ H1 e1 h1 (.bl _)⟩
end AP

/-! Defs that run where no text of an object is being made (so that they may ask for one), and repr. -/
namespace AP
open PySem PySem.Spec PyProof.Rows L2
structure FnG (P : Program) (w : World) (K : PySem.W.Frag) (mg : Str → Option Value) (base : Heap) (CX : CXT) (k : Nat) (f : Addr) (fd : FuncData) (ps : List Str) (sp : Sp) : Prop where
  many : ∀ vs H Q E, sp vs H Q E → vs.length = ps.length
  goes : ∀ (A : Around) (outer : List Env) (s : Shared) (H : Hp) (args : Args) (us : List Value) (vs : List V) (Q : VK) (E : XK), A.guards = some [] → Room k A → Env0 P w K mg base A outer s H →
    BindsTo s fd args (ps.zip us) → Vals vs us → sp vs H Q E → codeAny (model P w) A (.call (.ref f) args) (CR CX outer P w H s Q E) s
section
variable {P : Program} {w : World} {K : PySem.W.Frag} {mg : Str → Option Value} {base : Heap} {x qual : Str} {params : Arguments} {body : List Stmt} {scope : Scope} {dvs : List V} {kws : List (Str × V)} {f : Addr} {fd : FuncData}
theorem FnG.mono {CX : CXT} {j k : Nat} {ps : List Str} {sp : Sp} (F : FnG P w K mg base CX j f fd ps sp) (h : j ≤ k) : FnG P w K mg base CX k f fd ps sp :=
  ⟨F.many, fun A outer s H args us vs Q E g hr => F.goes A outer s H args us vs Q E g (hr.mono h)⟩
theorem FnG.weak {CX : CXT} {k : Nat} {ps : List Str} {sp sp' : Sp} (F : FnG P w K mg base CX k f fd ps sp) (h : ∀ vs H Q E, sp' vs H Q E → sp vs H Q E) : FnG P w K mg base CX k f fd ps sp' :=
  ⟨fun vs H Q E a => F.many vs H Q E (h _ _ _ _ a), fun A outer s H args us vs Q E g hr e0 hb hv hs => F.goes A outer s H args us vs Q E g hr e0 hb hv (h _ _ _ _ hs)⟩
/-- a def, by its body's reading -/
theorem fnG_ok {CX : CXT} {N ps : List Str} {k : Nat} {sp : Sp} (F : FunD K x qual params body scope dvs kws f fd) (sc : FnScope N ps scope) (many : ∀ vs H Q E, sp vs H Q E → vs.length = ps.length)
    (reading : ∀ (cdv : Value) (A : Around) (outer : List Env) (s : Shared) (H : Hp) (vs : List V) (Q : VK) (E : XK), A.guards = some [] → Room k (A.deeper (envOfC qual scope s.heap.objs.size f cdv)) → sp vs H Q E →
      ∃ t, PSs (cxOf CX P w K mg base N qual scope f cdv A outer s H E) body t ∧ t { nx := fun _ G => Q .non G, rt := Q } (start N vs) H) :
    FnG P w K mg base CX (k + 1) f fd ps sp := by
  obtain ⟨oc, od, dV, kV, doc, pm, an, cdv, ct, osl, e, lk, hcd, _, _⟩ := F.ex
  subst e
  constructor
  · exact many
  intro A outer s H args us vs Q E hg room e0 binds vals wish
  have stays : ∀ b o, base.get? b = some o → s.heap.get? b = some o := fun b o q => (e0.bs b o q).1
  have inK : K.In s.heap := e0.mod.kin.keeps stays
  have nol : s.heap.NoLimit := e0.mod.nolimit.keeps stays
  have kinds : ∀ y ∈ ps.zip us, scope.names.lookup y.1 = some .local ∨
      (scope.names.lookup y.1 = some .cell ∧ ((cellsFrom (s.heap.objs.size + 1) scope.names []).lookup y.1).isSome = true) := by
    rintro ⟨n, v⟩ hy
    cases sc.par n (List.of_mem_zip hy).1 with
    | inl q => exact .inl q
    | inr q => exact .inr ⟨q, PySem.W.cellsFrom_some _ _ _ (.inl q)⟩
  apply codeAny_call_function room.depth (inK _ _ lk) rfl sc.co sc.gen rfl (PySem.W.codeRec_of inK hcd)
  apply binds
  apply wpAny_newFunctionEnv_cells sc.kind kinds
  intro env he s1 inside
  subst he
  constructor
  · exact nol.keeps inside.toInCall.keep
  apply codeAny_func
  obtain ⟨t, ht, hq⟩ := reading cdv A outer s H vs Q E hg (room.deeper _) wish
  have J := inv_start (CX := CX) (E := E) sc room.hd e0 (many _ _ _ _ wish) vals inside
  refine wpAny_mono (ht.run [] s1 (start N vs) H _ J hq) ?_ (fun _ _ z => z)
  intro fl s2 hs
  cases fl with
  | next =>
    obtain ⟨σ2, H2, I2, q2⟩ := hs
    exact ⟨.non, H2, I2.os, I2.bare, I2.base, I2.hok, rfl, q2⟩
  | ret u =>
    obtain ⟨v2, σ2, H2, I2, rv2, q2⟩ := hs
    exact ⟨v2, H2, I2.os, I2.bare, I2.base, I2.hok, rv2, q2⟩
  | brk =>
    obtain ⟨_, _, _, z⟩ := hs
    exact (show False from z).elim
  | cont =>
    obtain ⟨_, _, _, z⟩ := hs
    exact (show False from z).elim
end
section
variable {X : Cx} {CX : CXT} {k : Nat} {f : Addr} {fd : FuncData} {ps ks : List Str} {sp : Sp} {dvs : List V} {ds : List Value} {E : XK} {x : Str} {p pos : Pos} {e : Expr} {es : List Expr} {kws : List Keyword} {t tk : TA}
theorem after_call {pins : List (Addr × Obj)} {σ : L2.St} {H : Hp} {s s' : Shared} {Q : VK} (hx : Passes CX X E) (I : Inv X pins σ H s) {r : Result} (h : CR CX X.stack X.prog X.w H s Q E r s') :
    match r with
    | .ok (.ret u) => EP X pins σ Q u s'
    | .ok _ => False
    | .error e => X.xe e s' := by
  cases r with
  | error e => exact hx pins σ H s e s' I h
  | ok fl => cases fl with
    | ret u => exact I.after h
    | next => exact h
    | brk => exact h
    | cont => exact h
theorem runG {pins : List (Addr × Obj)} {σ : L2.St} {H : Hp} {s : Shared} {Q : VK} {us : List Value} {kw : List (Str × Value)} {vs : List V} {args : List Value} (F : FnG X.prog X.w X.K X.mg X.base CX k f fd ps sp) (hg : X.A.guards = some []) (hr : Room k X.A)
    (hx : Passes CX X E) (I : Inv X pins σ H s) (r : Vals vs args) (hb : BindsTo s fd ⟨us, kw⟩ (ps.zip args)) (h : sp vs H Q E) : wpAny (model X.prog X.w) X.A (call (.ref f) us kw) (EP X pins σ Q) X.xe s := by
  refine wpAny_call (codeAny_mono (F.goes X.A X.stack s H ⟨us, kw⟩ args vs Q E hg hr I.env0 hb r h) ?_)
  intro r s' hq
  have q := after_call hx I hq
  cases r with
  | error e => exact q
  | ok fl => cases fl with
    | ret u => exact q
    | next => exact q.elim
    | brk => exact q.elim
    | cont => exact q.elim
/-- f(e, ..) -/
theorem pe_callG (F : FnG X.prog X.w X.K X.mg X.base CX k f fd ps sp) (hg : X.A.guards = some []) (hr : Room k X.A) (hgl : Gl X x) (hm : X.mg x = some (.ref f)) (hk : PySem.W.keepIn X.K (.ref f) = true) (hb : Binds X.K fd ps ds) (hd : Vals dvs ds) (hx : Passes CX X E)
    (ha : PA X (e :: es) t) (hdb : (x == ("__debug__" : Str)) = false := by decide) (he : starEach (e :: es) X.env = (false, eval e X.env) :: starEach es X.env := by rfl)
    (hpl : (backTo pos (starEach es X.env)).any (·.1) = false := by rfl) : PE X (.Call (.Name x p) (e :: es) [] pos) (tCall sp dvs E t) := by
  constructor
  intro pins s σ H Q I h
  refine wpAny_Call_Name_kw (ld_glob I hgl hm ?_ hdb)
  refine PySem.W.callWith_K (h₀ := X.base) I.ok.mod.kin hk (thn (ha.run pos pins s σ H _ I h) ?_) he hpl
  rintro us s1 ⟨vs, H1, I1, r, q⟩
  refine ⟨I1.kIn, runG F hg hr hx I1 (r.append hd) (hb s1 us I1.kIn ?_) q⟩
  rw [← (r.append hd).length]
  exact F.many _ _ _ _ q
/-- f() -/
theorem pe_callG0 (F : FnG X.prog X.w X.K X.mg X.base CX k f fd ps sp) (hg : X.A.guards = some []) (hr : Room k X.A) (hgl : Gl X x) (hm : X.mg x = some (.ref f)) (hk : PySem.W.keepIn X.K (.ref f) = true) (hb : Binds X.K fd ps ds) (hd : Vals dvs ds) (hx : Passes CX X E)
    (hdb : (x == ("__debug__" : Str)) = false := by decide) : PE X (.Call (.Name x p) [] [] pos) (tCall sp dvs E tNil) := by
  constructor
  intro pins s σ H Q I h
  refine wpAny_Call_Name_kw (ld_glob I hgl hm ?_ hdb)
  refine PySem.W.callWith_K0 I.kIn hk (runG (us := []) F hg hr hx I hd (hb s [] I.kIn ?_) h)
  have h' : sp ([] ++ dvs) H Q E := h
  have := F.many _ _ _ _ h'
  rw [List.nil_append] at this ⊢
  rw [← hd.length]; exact this
/-- f(k = v, ..), keywords alone -/
def perm {α : Type} (ix : List Nat) (l : List α) : List α := ix.filterMap fun i => l[i]?
theorem perm_vals {zs : List V} {ws : List Value} (r : Vals zs ws) : ∀ ix : List Nat, Vals (perm ix zs) (perm ix ws)
  | [] => .nil
  | i :: ix => by
    unfold perm
    rw [List.filterMap_cons, List.filterMap_cons]
    cases h : zs[i]? with
    | none => rw [r.none_of h]; exact perm_vals r ix
    | some x =>
      obtain ⟨u, h1, h2⟩ := r.get h
      rw [h1]
      exact .cons h2 (perm_vals r ix)
def tCallP (sp : Sp) (ix : List Nat) (E : XK) (tk : TA) : TE := fun σ H Q => tk σ H fun zs H1 => sp (perm ix zs) H1 Q E
theorem pe_callGk {ix : List Nat} (F : FnG X.prog X.w X.K X.mg X.base CX k f fd ps sp) (hg : X.A.guards = some []) (hr : Room k X.A) (hgl : Gl X x) (hm : X.mg x = some (.ref f)) (hk : PySem.W.keepIn X.K (.ref f) = true)
    (hb : ∀ (s : Shared) (ws : List Value), (perm ix ws).length = ps.length → BindsTo s fd ⟨[], ks.zip ws⟩ (ps.zip (perm ix ws))) (hx : Passes CX X E) (hkw : PK X kws tk)
    (hall : (backToKw pos (keywordEach kws X.env)).all (·.1.isSome) = true := by rfl) (hks : (backToKw pos (keywordEach kws X.env)).filterMap (·.1) = ks := by rfl) (hdb : (x == ("__debug__" : Str)) = false := by decide)
    (hpl : ((backTo pos (starEach [] X.env)).any (·.1) || (backToKw pos (keywordEach kws X.env)).any (·.1.isNone)) = false := by rfl) : PE X (.Call (.Name x p) [] kws pos) (tCallP sp ix E tk) := by
  constructor
  intro pins s σ H Q I h
  refine wpAny_Call_Name_kw (ld_glob I hgl hm ?_ hdb)
  refine PySem.W.callWith_KW0 (h₀ := X.base) I.ok.mod.kin hk hall (thn (hkw.run pos pins s σ H _ I h) ?_) hpl
  rintro ws s1 ⟨zs, H1, I1, r, q⟩
  rw [hks]
  have r2 := perm_vals r ix
  exact ⟨I1.kIn, runG F hg hr hx I1 r2 (hb s1 ws (by rw [← r2.length]; exact F.many _ _ _ _ q)) q⟩
end
/-! repr -/
def rRepr (K : PySem.W.Frag) : List V → Hp → VK → Prop := fun xs H Q => ∃ x d, xs = [x] ∧ Dp K H x d ∧ PyData.showable d = true ∧ d.hasDict = false ∧ d.shown.length ≤ sizeLine ∧ d.depth ≤ 60 ∧ Q (.str d.shown) H
theorem call_repr {X : Cx} (hg : X.A.guards = some []) (hu : X.A.units + 64 < cLine) : CallR X (.builtin "repr") (rRepr X.K) := by
  intro pins s σ H xs us Q I r h
  obtain ⟨x, d, rfl, hd, h1, h2, h3, h4, q⟩ := h
  obtain ⟨u, rfl, rx⟩ := vals1 r
  obtain ⟨as, rd⟩ := Dp.reads I d x u hd rx
  have fin : ∀ t, EP X pins σ Q (.str d.shown t) { s with toks := s.toks + 1 } := fun t => ⟨.str d.shown, H, I.tok _, ⟨_, rfl⟩, q⟩
  cases hd with
  | non => cases rx; exact PySem.P.repr_of_none (fin _)
  | bl b =>
    cases rx
    have e : PyData.shown (.bool b) = (if b then Str.ofString "True" else Str.ofString "False") := by
      cases b <;> simp only [PyData.shown] <;> rfl
    rw [e] at fin
    exact PySem.P.repr_of_bool (fin _)
  | int i =>
    obtain ⟨t, rfl⟩ := rx
    have e : PyData.shown (.int i) = toString i := by simp only [PyData.shown]
    rw [e] at fin
    exact PySem.P.repr_of_int (by simpa [PyData.showable] using h1) (fin _)
  | str y =>
    obtain ⟨t, rfl⟩ := rx
    have e : PyData.shown (.str y) = reprText y := by simp only [PyData.shown]
    rw [e] at fin h3
    exact PySem.P.repr_of_str (fin _) h3
  | lst hs ha =>
    cases rx
    exact repr_of_reads' rd h1 (fun z => by rw [h2] at z; cases z) hg (by omega) (fun _ _ e => e) (fun h' u tk hk => ⟨.str _, H, I.kept hk, ⟨_, rfl⟩, q⟩) h3
  | tup hs ha =>
    cases rx
    exact repr_of_reads' rd h1 (fun z => by rw [h2] at z; cases z) hg (by omega) (fun _ _ e => e) (fun h' u tk hk => ⟨.str _, H, I.kept hk, ⟨_, rfl⟩, q⟩) h3
end AP

/-! Statements, told by a function of the state. -/
namespace AP
open PySem PySem.Spec PyProof.Rows L2
inductive Out where
  | nx (s : S) | rt (v : SV) (o : List MO) | bk (s : S) | ct (s : S)
abbrev SM := S → Option Out
def Fin (Z : Zs) (M : List Addr) (H : Hp) (E : Ends) : Out → Prop
  | .nx s' => ∀ M' σ' H', Ext M H M' H' → Rel Z M' s' σ' H' → E.nx σ' H'
  | .rt r o' => ∀ M' v H', Ext M H M' H' → Rob Z M' o' H' → Rv Z M' H' v r → E.rt v H'
  | .bk s' => ∀ M' σ' H', Ext M H M' H' → Rel Z M' s' σ' H' → E.bk σ' H'
  | .ct s' => ∀ M' σ' H', Ext M H M' H' → Rel Z M' s' σ' H' → E.ct σ' H'
def SnS (t : TS) (m : SM) : Prop := ∀ Z M s σ H, Rel Z M s σ H → ∀ out, m s = some out → ∀ E : Ends, Fin Z M H E out → t E σ H
theorem Fin.ext {Z : Zs} {M M' : List Addr} {H H' : Hp} {E : Ends} {out : Out} (e : Ext M H M' H') (f : Fin Z M H E out) : Fin Z M' H' E out := by
  cases out with
  | nx s => exact fun M2 σ2 H2 e2 r => f M2 σ2 H2 (e.trans e2) r
  | bk s => exact fun M2 σ2 H2 e2 r => f M2 σ2 H2 (e.trans e2) r
  | ct s => exact fun M2 σ2 H2 e2 r => f M2 σ2 H2 (e.trans e2) r
  | rt r o => exact fun M2 v2 H2 e2 a b => f M2 v2 H2 (e.trans e2) a b
/-! blocks -/
def mNext : SM := fun s => some (.nx s)
theorem ss_next : SnS tNext mNext := by
  intro Z M s σ H h out e E f
  cases e
  exact f M σ H (Ext.refl M H) h
def mSeq (a b : SM) : SM := fun s => match a s with
  | some (.nx s') => b s'
  | r => r
theorem ss_seq {t u : TS} {a b : SM} (ha : SnS t a) (hb : SnS u b) : SnS (tSeq t u) (mSeq a b) := by
  intro Z M s σ H h out e E f
  unfold mSeq at e
  split at e
  · rename_i s' es
    refine ha Z M s σ H h _ es _ fun M' σ' H' e' h' => ?_
    exact hb Z M' s' σ' H' h' out e E (f.ext e')
  · rename_i r hr
    refine ha Z M s σ H h out e _ ?_
    cases out with
    | nx s' => exact absurd e (hr s')
    | bk s' => exact f
    | ct s' => exact f
    | rt r o => exact f
def mBreak : SM := fun s => some (.bk s)
def mCont : SM := fun s => some (.ct s)
theorem ss_break : SnS tBreak mBreak := by
  intro Z M s σ H h out e E f
  cases e
  exact f M σ H (Ext.refl M H) h
theorem ss_cont : SnS tCont mCont := by
  intro Z M s σ H h out e E f
  cases e
  exact f M σ H (Ext.refl M H) h
def mNever : SM := fun _ => none
theorem ss_never {t : TS} : SnS t mNever := by
  intro Z M s σ H h out e
  cases e
def mDrop (a : EM) : SM := fun s => match a s with
  | none => none
  | some (_, o1) => some (.nx (s.on o1))
theorem ss_drop {te : TE} {a : EM} (ha : Sn te a) : SnS (tDrop te) (mDrop a) := by
  intro Z M s σ H h out e E f
  unfold mDrop at e
  split at e
  · cases e
  · rename_i x o1 ea
    cases e
    exact ha Z M s σ H h _ _ ea _ fun M1 v1 H1 ⟨e1, _⟩ h1 _ => f M1 σ H1 e1 h1
def mRet (a : EM) : SM := fun s => match a s with
  | none => none
  | some (x, o1) => some (.rt x o1)
theorem ss_ret {te : TE} {a : EM} (ha : Sn te a) : SnS (tRet te) (mRet a) := by
  intro Z M s σ H h out e E f
  unfold mRet at e
  split at e
  · cases e
  · rename_i x o1 ea
    cases e
    exact ha Z M s σ H h _ _ ea _ fun M1 v1 H1 ⟨e1, _⟩ h1 r1 => f M1 v1 H1 e1 h1.r r1
def mRetN : SM := fun s => some (.rt (.d .none) s.o)
theorem ss_retN : SnS tRetN mRetN := by
  intro Z M s σ H h out e E f
  cases e
  exact f M .non H (Ext.refl M H) h.r .non
def mIfS (c : TM) (a b : SM) : SM := fun s => match c s with
  | none => none
  | some (true, o1) => a (s.on o1)
  | some (false, o1) => b (s.on o1)
theorem ss_if {tc : TT} {t u : TS} {c : TM} {a b : SM} (hc : SnT tc c) (ha : SnS t a) (hb : SnS u b) : SnS (tIfS tc t u) (mIfS c a b) := by
  intro Z M s σ H h out e E f
  unfold mIfS at e
  split at e
  · cases e
  · rename_i o1 ec
    refine hc Z M s σ H h _ _ ec _ fun M1 H1 ⟨e1, _⟩ h1 => ?_
    rw [if_pos rfl]
    exact ha Z M1 (s.on o1) σ H1 h1 out e E (f.ext e1)
  · rename_i o1 ec
    refine hc Z M s σ H h _ _ ec _ fun M1 H1 ⟨e1, _⟩ h1 => ?_
    rw [if_neg (by decide)]
    exact hb Z M1 (s.on o1) σ H1 h1 out e E (f.ext e1)
/-! targets -/
abbrev GM := SV → S → Option S
def SnG (g : TG) (m : GM) : Prop := ∀ Z M s σ H, Rel Z M s σ H → ∀ v sv, Rv Z M H v sv → ∀ s', m sv s = some s' → ∀ Q : L2.St → Hp → Prop, (∀ M' σ' H', Ex2 M H M' H' → Rel Z M' s' σ' H' → Q σ' H') → g v σ H Q
def mgName (i : Nat) : GM := fun v s => some { s with σ := s.σ.set i (some v) }
theorem sg_name {i : Nat} : SnG (gName i) (mgName i) := by
  intro Z M s σ H h v sv r s' e Q q
  cases e
  exact q M _ H (Ex2.refl M H) (h.put r)
abbrev GMs := List D → S → Option S
def SnGs (g : TGs) (m : GMs) : Prop := ∀ Z M s σ H, Rel Z M s σ H → ∀ vs ds, RpA (zz Z M) H vs ds → ∀ s', m ds s = some s' → ∀ Q : L2.St → Hp → Prop, (∀ M' σ' H', Ex2 M H M' H' → Rel Z M' s' σ' H' → Q σ' H') → g vs σ H Q
def mgNil : GMs := fun ds s => match ds with
  | [] => some s
  | _ => none
def mgCons (a : GM) (b : GMs) : GMs := fun ds s => match ds with
  | [] => none
  | d :: r => match a (.d d) s with
    | none => none
    | some s' => b r s'
theorem sgs_nil : SnGs gNil mgNil := by
  intro Z M s σ H h vs ds r s' e Q q
  unfold mgNil at e
  split at e
  · cases e
    cases r
    exact ⟨rfl, q M σ H (Ex2.refl M H) h⟩
  · cases e
theorem sgs_cons {t : TG} {u : TGs} {a : GM} {b : GMs} (ha : SnG t a) (hb : SnGs u b) : SnGs (gCons t u) (mgCons a b) := by
  intro Z M s σ H h vs ds r s' e Q q
  unfold mgCons at e
  split at e
  · cases e
  · rename_i d rest
    cases r with
    | cons hv hr =>
      split at e
      · cases e
      · rename_i s1 es
        refine ⟨_, _, rfl, ha Z M s σ H h _ (.d d) hv s1 es _ fun M1 σ1 H1 e1 h1 => ?_⟩
        exact hb Z M1 s1 σ1 H1 h1 _ rest (e1.mono_a hr) s' e Q fun M2 σ2 H2 e2 h2 => q M2 σ2 H2 (e1.trans e2) h2
/-- a, b, .. = a tuple -/
def mgTup (n : Nat) (a : GMs) : GM := fun v s => match v with
  | .d (.tuple ds) => if ds.length = n then a ds s else none
  | _ => none
theorem sg_tup {K : PySem.W.Frag} {n : Nat} {t : TGs} {a : GMs} (ha : SnGs t a) : SnG (gTup K n t) (mgTup n a) := by
  intro Z M s σ H h v sv r s' e Q q
  unfold mgTup at e
  split at e
  · rename_i ds
    split at e
    · rename_i hl
      have r2 : Rp (zz Z M) H v (.tuple ds) := r
      cases r2 with
      | tup z ha2 ra => exact ⟨_, _, rfl, SqT.of ha2, by rw [ra.length]; exact hl, ha Z M s σ H h _ ds ra s' e Q q⟩
    · cases e
  · cases e
def mAsg (a : EM) (g : GM) : SM := fun s => match a s with
  | none => none
  | some (x, o1) => match g x (s.on o1) with
    | none => none
    | some s' => some (.nx s')
theorem ss_asg {te : TE} {tg : TG} {a : EM} {g : GM} (ha : Sn te a) (hg : SnG tg g) : SnS (tAsg te tg) (mAsg a g) := by
  intro Z M s σ H h out e E f
  unfold mAsg at e
  split at e
  · cases e
  · rename_i x o1 ea
    refine ha Z M s σ H h _ _ ea _ fun M1 v1 H1 ⟨e1, _⟩ h1 r1 => ?_
    split at e
    · cases e
    · rename_i s' es
      cases e
      exact hg Z M1 (s.on o1) σ H1 h1 v1 x r1 s' es _ fun M2 σ2 H2 e2 h2 => f M2 σ2 H2 (e1.trans e2.toExt) h2
/-- a, b = x, y -/
def mPar (i j : Nat) (a : AM) : SM := fun s => match a s with
  | some ([x, y], o1) => some (.nx { (s.on o1) with σ := (s.σ.set i (some x)).set j (some y) })
  | _ => none
theorem ss_par {i j : Nat} {ta : TA} {a : AM} (ha : SnA ta a) : SnS (tPar i j ta) (mPar i j a) := by
  intro Z M s σ H h out e E f
  unfold mPar at e
  split at e
  · rename_i x y o1 ea
    cases e
    refine ha Z M s σ H h _ _ ea _ fun M1 vs H1 ⟨e1, _⟩ h1 r1 => ?_
    cases r1 with
    | cons hx t =>
      cases t with
      | cons hy t2 =>
        cases t2
        exact ⟨_, _, rfl, f M1 _ H1 e1 ((h1.put hx).put hy)⟩
  · cases e
/-! objects that may change -/
def RoC (Z : Zs) (M : List Addr) (H : Hp) (ob : HO) : MO → Prop
  | .l ds => ∃ xs, ob = .lst xs ∧ RpA (zz Z M) H xs ds
  | .k ps => ∃ kvs, ob = .dK kvs ∧ RpK (zz Z M) H kvs (kvD ps)
theorem RoC.ro {Z : Zs} {M : List Addr} {H : Hp} {ob : HO} {r : MO} {a : Addr} (h : RoC Z M H ob r) (e : H a = some ob) : Ro Z M H a r := by
  cases r with
  | l ds => obtain ⟨xs, rfl, q⟩ := h; exact ⟨xs, e, q⟩
  | k ps => obtain ⟨xs, rfl, q⟩ := h; exact ⟨xs, e, q⟩
theorem RoC.ext {Z : Zs} {M M' : List Addr} {H H' : Hp} {ob : HO} {r : MO} (h : RoC Z M H ob r) (e : Ext M H M' H') : RoC Z M' H' ob r := by
  cases r with
  | l ds => obtain ⟨xs, rfl, q⟩ := h; exact ⟨xs, rfl, e.mono_a q⟩
  | k ps => obtain ⟨xs, rfl, q⟩ := h; exact ⟨xs, rfl, e.mono_k q⟩
theorem Ro.ext {Z : Zs} {M M' : List Addr} {H H' : Hp} {a : Addr} {r : MO} (h : Ro Z M H a r) (e : Ext M H M' H') (ha : ∀ o, H a = some o → H' a = some o) : Ro Z M' H' a r := by
  cases r with
  | l ds => obtain ⟨xs, q1, q⟩ := h; exact ⟨xs, ha _ q1, e.mono_a q⟩
  | k ps => obtain ⟨xs, q1, q⟩ := h; exact ⟨xs, ha _ q1, e.mono_k q⟩
/-- a new object, held by nobody yet, may change from now on -/
theorem own_new {Z : Zs} {M : List Addr} {s : S} {σ : L2.St} {H : Hp} {p : Addr} {ob : HO} {r : MO} (h : Rel Z M s σ H) (hp : H p = none) (hr : RoC Z M H ob r) :
    Rel Z (M ++ [p]) { s with o := s.o ++ [r] } σ (upd H p ob) ∧ Ext M H (M ++ [p]) (upd H p ob) := by
  have n := New.upd (o := ob) hp
  have npM : p ∉ M := fun hm => h.r.zzd p (.inr hm) hp
  have npZ : ¬ Z p := fun hm => h.r.zs p hm hp
  have ex : Ext M H (M ++ [p]) (upd H p ob) := ⟨⟨[p], rfl⟩, fun a o h1 h2 => ⟨by
    simp only [List.mem_append, List.mem_singleton, not_or]
    exact ⟨h1, fun e => by rw [e, hp] at h2; cases h2⟩, n a o h2⟩, fun a ha => by
    cases e : H a with
    | none => exact absurd e ha
    | some o => rw [n a o e]; exact fun z => nomatch z⟩
  refine ⟨⟨⟨?_, fun a ha => ex.dom a (h.r.zs a ha), ?_, by simp [h.r.len], fun k a x h1 h2 => ?_⟩, fun i sv q => ?_, h.sn⟩, ex⟩
  · rw [List.nodup_append]
    refine ⟨h.r.nd, by simp, fun a ha b hb => ?_⟩
    simp only [List.mem_singleton] at hb
    subst hb
    exact fun e => npM (e ▸ ha)
  · intro a ha
    rcases List.mem_append.mp ha with q | q
    · exact h.r.nz a q
    · simp only [List.mem_singleton] at q; subst q; exact npZ
  · by_cases hk : k < M.length
    · rw [List.getElem?_append_left hk] at h1
      rw [List.getElem?_append_left (by rw [h.r.len]; exact hk)] at h2
      exact (h.r.ob k a x h1 h2).ext ex fun o q => n a o q
    · have e1 : k = M.length := by
        have := (List.getElem?_eq_some_iff.mp h1).1
        simp at this
        omega
      subst e1
      rw [List.getElem?_append_right (Nat.le_refl _)] at h1
      rw [List.getElem?_append_right (by rw [h.r.len]; exact Nat.le_refl _), h.r.len] at h2
      simp at h1 h2
      subst h1; subst h2
      exact (hr.ext ex).ro upd_same
  · obtain ⟨v, q1, q2⟩ := h.sl i sv q
    exact ⟨v, q1, ex.rv q2⟩
/-- an object that may change is changed -/
theorem nodup_get {α : Type} {l : List α} (h : l.Nodup) {i j : Nat} {x : α} (a : l[i]? = some x) (b : l[j]? = some x) : i = j := by
  obtain ⟨h1, e1⟩ := List.getElem?_eq_some_iff.mp a
  obtain ⟨h2, e2⟩ := List.getElem?_eq_some_iff.mp b
  exact (List.getElem_inj h).mp (e1.trans e2.symm)
theorem own_mut {Z : Zs} {M : List Addr} {s : S} {σ : L2.St} {H : Hp} {k : Nat} {a : Addr} {ob : HO} {r : MO} (h : Rel Z M s σ H) (hk : M[k]? = some a) (hr : RoC Z M H ob r) :
    Rel Z M { s with o := s.o.set k r } σ (upd H a ob) ∧ Ext M H M (upd H a ob) := by
  have ha : a ∈ M := List.mem_of_getElem? hk
  have ex : Ext M H M (upd H a ob) := ⟨⟨[], by simp⟩, fun b o h1 h2 => ⟨h1, by
    have nb : b ≠ a := fun e => by subst e; exact h1 ha
    rw [upd_ne nb]; exact h2⟩, fun b hb => by
    by_cases e : b = a
    · subst e; rw [upd_same]; exact fun z => nomatch z
    · rw [upd_ne e]; exact hb⟩
  refine ⟨⟨⟨h.r.nd, fun b hb => ex.dom b (h.r.zs b hb), h.r.nz, by simp [h.r.len], fun j b x h1 h2 => ?_⟩, fun i sv q => ?_, h.sn⟩, ex⟩
  · by_cases hj : j = k
    · subst hj
      rw [hk] at h1
      cases h1
      have hl : j < s.o.length := by rw [h.r.len]; exact (List.getElem?_eq_some_iff.mp hk).1
      have h2' : (s.o.set j r)[j]? = some x := h2
      rw [List.getElem?_set_self hl] at h2'
      cases h2'
      exact (hr.ext ex).ro upd_same
    · have h2' : (s.o.set k r)[j]? = some x := h2
      rw [List.getElem?_set_ne (Ne.symm hj)] at h2'
      have nab : b ≠ a := fun e => hj (nodup_get h.r.nd h1 (e ▸ hk))
      exact (h.r.ob j b x h1 h2').ext ex fun o q => by rw [upd_ne nab]; exact q
  · obtain ⟨v, q1, q2⟩ := h.sl i sv q
    exact ⟨v, q1, ex.rv q2⟩
def frz : MO → D
  | .l ds => .list ds
  | .k ps => .dict (kvD ps)
/-- the newest one no more changes: it is data -/
theorem own_end {Z : Zs} {M : List Addr} {o : List MO} {H : Hp} {p : Addr} {r : MO} (h : Rob Z (M ++ [p]) (o ++ [r]) H) : Rob Z M o H ∧ Rp (zz Z M) H (.ref p) (frz r) := by
  have hl : o.length = M.length := by
    have := h.len
    simp at this
    exact this
  have npM : p ∉ M := fun hm => by
    have := (List.nodup_append.mp h.nd).2.2 p hm p (by simp)
    exact this rfl
  have npZ : ¬ Z p := h.nz p (by simp)
  have k0 : ∀ (a : Addr) (u : HO), ¬ zz Z (M ++ [p]) a → H a = some u → ¬ zz Z M a ∧ H a = some u := fun a u z e =>
    ⟨fun y => z (y.elim .inl fun q => .inr (List.mem_append_left _ q)), e⟩
  have ro : ∀ {a : Addr} {x : MO}, Ro Z (M ++ [p]) H a x → Ro Z M H a x := fun {a x} q => by
    cases x with
    | l ds => obtain ⟨xs, q1, q2⟩ := q; exact ⟨xs, q1, q2.mono k0⟩
    | k ps => obtain ⟨xs, q1, q2⟩ := q; exact ⟨xs, q1, q2.mono k0⟩
  refine ⟨⟨(List.nodup_append.mp h.nd).1, h.zs, fun a ha => h.nz a (List.mem_append_left _ ha), hl, fun k a x h1 h2 => ?_⟩, ?_⟩
  · have hk : k < M.length := (List.getElem?_eq_some_iff.mp h1).1
    exact ro (h.ob k a x (by rw [List.getElem?_append_left hk]; exact h1) (by rw [List.getElem?_append_left (by rw [hl]; exact hk)]; exact h2))
  · have q := ro (h.ob M.length p r (by rw [List.getElem?_append_right (Nat.le_refl _)]; simp) (by rw [List.getElem?_append_right (by rw [hl]; exact Nat.le_refl _), hl]; simp))
    have nz : ¬ zz Z M p := fun y => y.elim npZ npM
    cases r with
    | l ds => obtain ⟨xs, q1, q2⟩ := q; exact .lst nz q1 q2
    | k ps => obtain ⟨xs, q1, q2⟩ := q; exact .dct nz q1 q2
/-- an expression that makes a new object -/
abbrev NM := S → Option (MO × List MO)
def SnN (t : TE) (m : NM) : Prop := ∀ Z M s σ H, Rel Z M s σ H → ∀ r o', m s = some (r, o') → ∀ Q : VK,
  (∀ M' p H', M' = M → Ext M H (M' ++ [p]) H' → Rel Z (M' ++ [p]) { s with o := o' ++ [r] } σ H' → Q (.ref p) H') → t σ H Q
theorem Ext.init {M M' : List Addr} {H H' : Hp} {p : Addr} (hl : M' = M) (e : Ext M H (M' ++ [p]) H') : Ext M H M' H' := by
  obtain ⟨_, k, d⟩ := e
  exact ⟨⟨[], by rw [hl]; simp⟩, fun a o h1 h2 => ⟨fun y => (k a o h1 h2).1 (List.mem_append_left _ y), (k a o h1 h2).2⟩, d⟩
theorem Rel.ended {Z : Zs} {M M' : List Addr} {s : S} {σ : L2.St} {H H' : Hp} {p : Addr} {o' : List MO} {r : MO} (h : Rel Z M s σ H) (hl : M' = M) (e : Ext M H (M' ++ [p]) H') (g : Rel Z (M' ++ [p]) { s with o := o' ++ [r] } σ H') :
    Rel Z M' (s.on o') σ H' ∧ Rp (zz Z M') H' (.ref p) (frz r) := by
  obtain ⟨q1, q2⟩ := own_end g.r
  exact ⟨h.ext_on (e.init hl) q1, q2⟩
/-- taken as data -/
def mDat (m : NM) : EM := fun s => match m s with
  | none => none
  | some (r, o') => some (.d (frz r), o')
theorem sn_dat {t : TE} {m : NM} (hm : SnN t m) : Sn t (mDat m) := by
  intro Z M s σ H h w o' e Q q
  unfold mDat at e
  split at e
  · cases e
  · rename_i r o1 er
    cases e
    refine hm Z M s σ H h _ _ er _ fun M' p H' hl e' h' => ?_
    obtain ⟨g1, g2⟩ := h.ended hl e' h'
    exact q M' _ H' ⟨e'.init hl, hl⟩ g1 g2
/-- taken as an object that may change, at slot i -/
def mOwn (m : NM) (i : Nat) : SM := fun s => match m s with
  | none => none
  | some (r, o') => some (.nx ⟨s.σ.set i (some (.m o'.length)), o' ++ [r]⟩)
theorem ss_own {te : TE} {m : NM} {i : Nat} (hm : SnN te m) : SnS (tAsg te (gName i)) (mOwn m i) := by
  intro Z M s σ H h out e E f
  unfold mOwn at e
  split at e
  · cases e
  · rename_i r o' er
    cases e
    refine hm Z M s σ H h _ _ er _ fun M' p H' hl e' h' => ?_
    have hlen : o'.length = M'.length := by
      have := h'.r.len
      simp at this
      exact this
    have h2 : Rel Z (M' ++ [p]) ⟨s.σ.set i (some (.m o'.length)), o' ++ [r]⟩ (σ.set i (some (.ref p))) H' := h'.put (sv := .m o'.length) ⟨p, by rw [hlen, List.getElem?_append_right (Nat.le_refl _)]; simp, rfl⟩
    exact f (M' ++ [p]) _ H' e' h2
/-- displays, made to change -/
def mLstN (a : AM) : NM := fun s => match a s with
  | none => none
  | some (xs, o1) => match dats xs with
    | none => none
    | some ds => if ds.length ≤ 100000 then some (.l ds, o1) else none
theorem sn_lstN {ta : TA} {a : AM} (ha : SnA ta a) : SnN (tLst ta) (mLstN a) := by
  intro Z M s σ H h w o' e Q q
  unfold mLstN at e
  split at e
  · cases e
  · rename_i xs o1 ea
    refine ha Z M s σ H h _ _ ea _ fun M1 vs H1 ⟨e1, m1⟩ h1 r1 => ?_
    split at e
    · cases e
    · rename_i ds hd
      split at e
      · rename_i hl
        cases e
        have r2 := dats_ok r1 hd
        refine ⟨small_line (by rw [r2.length]; exact hl), fun p hp => ?_⟩
        obtain ⟨g1, g2⟩ := own_new (ob := .lst vs) (r := .l ds) h1 hp ⟨vs, rfl, r2⟩
        exact q M1 p _ m1 (e1.trans g2) g1
      · cases e
/-- {} -/
def mDict0 : NM := fun s => some (.k [], s.o)
theorem sn_dict0 : SnN tDNewK mDict0 := by
  intro Z M s σ H h w o' e Q q
  cases e
  intro p hp
  obtain ⟨g1, g2⟩ := own_new (ob := .dK []) (r := .k []) h hp ⟨[], rfl, .nil⟩
  exact q M p _ rfl g2 g1
/-- list(x), x a list or a tuple, to change -/
def mListN (a : EM) : NM := fun s => match a s with
  | none => none
  | some (x, o1) => match vw o1 x with
    | some (.list ds) => some (.l ds, o1)
    | some (.tuple ds) => some (.l ds, o1)
    | _ => none
theorem sn_listN {K : PySem.W.Frag} {ta : TE} {a : EM} (ha : Sn ta a) : SnN (tCB (fun xs H Q => ∃ p ys, xs = [.ref p] ∧ (SqL K H p ys ∨ SqT K H p ys) ∧ ∀ l, H l = none → Q (.ref l) (upd H l (.lst ys))) (tCons ta tNil)) (mListN a) := by
  intro Z M s σ H h w o' e Q q
  unfold mListN at e
  split at e
  · cases e
  · rename_i x o1 ea
    refine ha Z M s σ H h _ _ ea _ fun M1 v1 H1 ⟨e1, m1⟩ h1 r1 => ?_
    split at e
    · rename_i ds hd
      cases e
      obtain ⟨b, xs, rfl, hb, rb⟩ := vw_ok h1.r r1 hd
      refine ⟨b, xs, rfl, .inl (SqL.of hb), fun p hp => ?_⟩
      obtain ⟨g1, g2⟩ := own_new (ob := .lst xs) (r := .l ds) h1 hp ⟨xs, rfl, rb⟩
      exact q M1 p _ m1 (e1.trans g2) g1
    · rename_i ds hd
      cases e
      obtain ⟨b, xs, rfl, hb, rb, _⟩ := vw_ok h1.r r1 hd
      refine ⟨b, xs, rfl, .inr (SqT.of hb), fun p hp => ?_⟩
      obtain ⟨g1, g2⟩ := own_new (ob := .lst xs) (r := .l ds) h1 hp ⟨xs, rfl, rb⟩
      exact q M1 p _ m1 (e1.trans g2) g1
    · cases e
/-! changes -/
/-- x.append(e) -/
def mApp (a b : EM) : SM := fun s => match a s with
  | some (.m k, o1) => (match o1[k]? with
    | some (.l _) => (match b (s.on o1) with
      | some (.d d, o2) => (match o2[k]? with
        | some (.l ds) => if ds.length < 100000 then some (.nx (s.on (o2.set k (.l (ds ++ [d]))))) else none
        | _ => none)
      | _ => none)
    | _ => none)
  | _ => none
theorem Ext.at {M M' : List Addr} {H H' : Hp} {k : Nat} {a : Addr} (e : Ext M H M' H') (h : M[k]? = some a) : M'[k]? = some a := by
  obtain ⟨⟨x, hx⟩, _, _⟩ := e
  rw [hx, List.getElem?_append_left (List.getElem?_eq_some_iff.mp h).1]
  exact h
theorem rpA_snoc {Z : Zs} {H : Hp} {xs : List V} {ds : List D} {v : V} {d : D} (r : RpA Z H xs ds) (h : Rp Z H v d) : RpA Z H (xs ++ [v]) (ds ++ [d]) := r.append (.cons h .nil)
theorem ss_app {K : PySem.W.Frag} {ta tb : TE} {a b : EM} (ha : Sn ta a) (hb : Sn tb b) : SnS (tDrop (tBM K "list" rAppend ta (tCons tb tNil))) (mApp a b) := by
  intro Z M s σ H h out e E f
  unfold mApp at e
  split at e
  · rename_i k o1 ea
    refine ha Z M s σ H h _ _ ea _ fun M1 v1 H1 ⟨e1, _⟩ h1 r1 => ?_
    obtain ⟨p, hp, rfl⟩ := r1
    split at e
    · rename_i ds1 hk1
      obtain ⟨xs1, hx1, _⟩ := h1.r.ob k p _ hp hk1
      split at e
      · rename_i d o2 eb
        split at e
        · rename_i ds hk
          split at e
          · rename_i hl
            cases e
            refine ⟨.inl ⟨rfl, _, SqL.of hx1⟩, ?_⟩
            refine hb Z M1 (s.on o1) σ H1 h1 _ _ eb _ fun M2 v2 H2 ⟨e2, _⟩ h2 r2 => ?_
            have hp2 := e2.at hp
            obtain ⟨xs, hx, rx⟩ := h2.r.ob k p _ hp2 hk
            refine ⟨p, xs, v2, rfl, rfl, hx, Nat.lt_of_lt_of_le (by rw [rx.length]; exact hl) (small_line (Nat.le_refl _)), ?_⟩
            obtain ⟨g1, g2⟩ := own_mut (ob := .lst (xs ++ [v2])) (r := .l (ds ++ [d])) h2 hp2 ⟨_, rfl, rpA_snoc rx r2⟩
            exact f M2 σ _ ((e1.trans e2).trans g2) g1
          · cases e
        · cases e
      · cases e
    · cases e
  · cases e
/-- x.pop() -/
def mPop (a : EM) : EM := fun s => match a s with
  | some (.m k, o1) => (match o1[k]? with
    | some (.l ds) => (match ds.getLast? with
      | some d => some (.d d, o1.set k (.l ds.dropLast))
      | none => none)
    | _ => none)
  | _ => none
def putD (ps : List (Key × D)) (k : Key) (d : D) : List (Key × D) := match ps with
  | [] => [(k, d)]
  | (a, b) :: r => if a = k then (a, d) :: r else (a, b) :: putD r k d
/-- d[k] = v -/
def mPut (v a b : EM) : SM := fun s => match v s with
  | some (.d d, o1) => (match a (s.on o1) with
    | some (.m k, o2) => (match b (s.on o2) with
      | some (.d dk, o3) => (match toKey dk, o3[k]? with
        | some key, some (.k ps) => if ps.length < 100000 ∧ (ps.map (·.1)).Nodup then some (.nx (s.on (o3.set k (.k (putD ps key d))))) else none
        | _, _ => none)
      | _ => none)
    | _ => none)
  | _ => none
theorem putK_cons_eq {k : Key} {v w : V} {r : List (Key × V)} (nd : k ∉ r.map (·.1)) : putK ((k, w) :: r) k v = (k, v) :: r := by
  unfold putK
  have e1 : (((k, w) :: r).any fun kv => decide (kv.1 = k)) = true := by simp
  rw [if_pos e1]
  simp only [List.map_cons, if_true]
  congr 1
  have : ∀ p ∈ r, (if p.1 = k then (p.1, v) else p) = p := fun p hp => by
    rw [if_neg]
    intro e
    exact nd (List.mem_map.mpr ⟨p, hp, e⟩)
  rw [List.map_congr_left this]
  simp
theorem putK_cons_ne {a k : Key} {v w : V} {r : List (Key × V)} (h : ¬ a = k) : putK ((a, w) :: r) k v = (a, w) :: putK r k v := by
  unfold putK
  by_cases hr : (r.any fun kv => decide (kv.1 = k)) = true
  · rw [if_pos hr, if_pos (by simp [hr]), List.map_cons, if_neg h]
  · rw [if_neg hr, if_neg (by simp only [List.any_cons, decide_eq_false h, Bool.false_or]; exact hr)]
    rfl
theorem rpK_keys {Z : Zs} {H : Hp} : ∀ {kvs : List (Key × V)} {ps : List (Key × D)}, RpK Z H kvs (kvD ps) → kvs.map (·.1) = ps.map (·.1)
  | [], [], _ => rfl
  | _ :: _, [], r => by simp [kvD] at r; cases r
  | [], _ :: _, r => by simp [kvD] at r; cases r
  | (k, v) :: kvs, (k', d) :: ps, r => by
    have e : kvD ((k', d) :: ps) = (kD k', d) :: kvD ps := rfl
    rw [e] at r
    generalize hk : kD k' = kk at r
    cases r with
    | cons h t =>
      have := kD_inj hk
      subst this
      simp [rpK_keys t]
theorem rpK_put {Z : Zs} {H : Hp} {k : Key} {v : V} {d : D} (hv : Rp Z H v d) : ∀ {kvs : List (Key × V)} {ps : List (Key × D)}, RpK Z H kvs (kvD ps) → (ps.map (·.1)).Nodup → RpK Z H (putK kvs k v) (kvD (putD ps k d))
  | [], [], _, _ => .cons hv .nil
  | _ :: _, [], r, _ => by simp [kvD] at r; cases r
  | [], _ :: _, r, _ => by simp [kvD] at r; cases r
  | (a, w) :: kvs, (a', e) :: ps, r, nd => by
    have h0 : kvD ((a', e) :: ps) = (kD a', e) :: kvD ps := rfl
    rw [h0] at r
    generalize hk : kD a' = kk at r
    cases r with
    | cons h t =>
      have := kD_inj hk
      subst this
      simp only [List.map_cons, List.nodup_cons] at nd
      by_cases hak : a' = k
      · subst hak
        rw [putK_cons_eq (by rw [rpK_keys t]; exact nd.1)]
        simp only [putD, if_true]
        exact .cons hv t
      · rw [putK_cons_ne hak]
        simp only [putD, if_neg hak]
        exact .cons h (rpK_put hv t nd.2)
theorem ss_put {td ty tv : TE} {v a b : EM} (hv : Sn tv v) (ha : Sn td a) (hb : Sn ty b) : SnS (sDPut td ty tv) (mPut v a b) := by
  intro Z M s σ H h out e E f
  unfold mPut at e
  split at e
  · rename_i d o1 ev
    refine hv Z M s σ H h _ _ ev _ fun M1 v1 H1 ⟨e1, _⟩ h1 r1 => ?_
    split at e
    · rename_i k o2 ea
      refine ha Z M1 (s.on o1) σ H1 h1 _ _ ea _ fun M2 v2 H2 ⟨e2, _⟩ h2 r2 => ?_
      obtain ⟨p, hp, rfl⟩ := r2
      split at e
      · rename_i dk o3 eb
        refine hb Z M2 (s.on o2) σ H2 h2 _ _ eb _ fun M3 v3 H3 ⟨e3, _⟩ h3 r3 => ?_
        split at e
        · rename_i key ps hkey hk
          split at e
          · rename_i hl
            cases e
            have hp3 := e3.at hp
            obtain ⟨kvs, hx, rx⟩ := h3.r.ob k p _ hp3 hk
            have hv3 : v3 = kV key := key_rt (Rp.rt r3) hkey
            subst hv3
            have hlen : kvs.length = ps.length := by rw [rx.length]; simp [kvD]
            obtain ⟨g1, g2⟩ := own_mut (ob := .dK (putK kvs key v1)) (r := .k (putD ps key d)) h3 hp3 ⟨_, rfl, rpK_put ((e2.trans e3).mono_d r1) rx hl.2⟩
            exact ⟨p, _, rfl, DPut.k hx (Nat.lt_of_lt_of_le (by rw [hlen]; exact hl.1) (small_line (Nat.le_refl _))), f M3 σ _ (((e1.trans e2).trans e3).trans g2) g1⟩
          · cases e
        · cases e
      · cases e
    · cases e
  · cases e
end AP

/-! Loops and comprehensions. -/
namespace AP
open PySem PySem.Spec PyProof.Rows L2 RZ
/-- what is walked: so many turns, each gives this item -/
def Src (Z : Zs) (M : List Addr) (H : Hp) (J : It) (items : List D) : Prop :=
  ∃ (G : Hp → Prop) (Y : Nat → Hp → V → Hp → Prop), L2.Walk J items.length G Y ∧ (∀ M2 H2, Ext M H M2 H2 → G H2) ∧
    ∀ i H2 x H3 M2, Ext M H M2 H2 → (∀ a, zz Z M2 a → H2 a ≠ none) → i < items.length → Y i H2 x H3 → New H2 H3 ∧ ∃ d, items[i]? = some d ∧ Rp (zz Z M2) H3 x d
abbrev IM := S → Option (List D × List MO)
def SnI (wi : TI) (m : IM) : Prop := ∀ Z M s σ H, Rel Z M s σ H → ∀ items o', m s = some (items, o') → ∀ R : It → Hp → Prop,
  (∀ J H', Ext M H M H' → Rel Z M (s.on o') σ H' → Src Z M H' J items → R J H') → wi σ H R
theorem Ext.keepz {Z : Zs} {M M' : List Addr} {H H' : Hp} (e : Ext M H M' H') {a : Addr} {o : HO} (z : ¬ zz Z M a) (h : H a = some o) : H' a = some o := (e.keep a o (fun y => z (.inr y)) h).2
/-- a list's or a tuple's items -/
def seqOf : SV → Option (List D)
  | .d (.list ds) => some ds
  | .d (.tuple ds) => some ds
  | _ => none
def mItems (a : EM) : IM := fun s => match a s with
  | none => none
  | some (x, o1) => match seqOf x with
    | none => none
    | some ds => some (ds, o1)
theorem src_list {K : PySem.W.Frag} {Z : Zs} {M : List Addr} {H : Hp} {a : Addr} {xs : List V} {ds : List D} (z : ¬ zz Z M a) (h : H a = some (.lst xs)) (r : RpA (zz Z M) H xs ds) : Src Z M H (Itl K a) ds := by
  refine ⟨_, _, by rw [← r.length]; exact L2.walk_list (xs := xs), fun M2 H2 e => SqL.of (e.keepz z h), fun i H2 x H3 M2 e _ _ y => ?_⟩
  obtain ⟨rfl, hx⟩ := y
  obtain ⟨d, h1, h2⟩ := (e.mono_a r).getV hx
  exact ⟨New.refl _, d, h1, h2⟩
theorem src_tup {K : PySem.W.Frag} {Z : Zs} {M : List Addr} {H : Hp} {a : Addr} {xs : List V} {ds : List D} (z : ¬ zz Z M a) (h : H a = some (.tup xs)) (r : RpA (zz Z M) H xs ds) : Src Z M H (Itt K a) ds := by
  refine ⟨_, _, by rw [← r.length]; exact L2.walk_tup (xs := xs), fun M2 H2 e => SqT.of (e.keepz z h), fun i H2 x H3 M2 e _ _ y => ?_⟩
  obtain ⟨rfl, hx⟩ := y
  obtain ⟨d, h1, h2⟩ := (e.mono_a r).getV hx
  exact ⟨New.refl _, d, h1, h2⟩
/-- for x in e: a list or a tuple -/
def iSeq (K : PySem.W.Frag) (te : TE) : TI := fun σ H R => iList K te σ H R ∨ iTup K te σ H R
theorem pi_or {X : Cx} {tg e : Expr} {w w' : TI} (h : PI X tg e w) (h' : PI X tg e w') : PI X tg e (fun σ H R => w σ H R ∨ w' σ H R) :=
  ⟨fun pins s σ H R I q => q.elim (h.run pins s σ H R I) (h'.run pins s σ H R I)⟩
theorem si_seq {K : PySem.W.Frag} {te : TE} {a : EM} (ha : Sn te a) : SnI (iSeq K te) (mItems a) := by
  intro Z M s σ H h items o' e R q
  unfold mItems at e
  split at e
  · cases e
  · rename_i x o1 ea
    split at e
    · cases e
    · rename_i ds hd
      cases e
      unfold seqOf at hd
      split at hd
      · cases hd
        refine .inl (ha Z M s σ H h _ _ ea _ fun M1 v1 H1 ⟨e1, m1⟩ h1 r1 => ?_)
        subst m1
        have r2 : Rp (zz Z _) H1 v1 (.list items) := r1
        cases r2 with
        | lst z hx rx => exact ⟨_, rfl, ⟨_, SqL.of hx⟩, q _ H1 e1 h1 (src_list z hx rx)⟩
      · cases hd
        refine .inr (ha Z M s σ H h _ _ ea _ fun M1 v1 H1 ⟨e1, m1⟩ h1 r1 => ?_)
        subst m1
        have r2 : Rp (zz Z _) H1 v1 (.tuple items) := r1
        cases r2 with
        | tup z hx rx => exact ⟨_, rfl, ⟨_, SqT.of hx⟩, q _ H1 e1 h1 (src_tup z hx rx)⟩
      · cases hd
/-- for x in e: a text, sign by sign -/
def mSigns (a : EM) : IM := fun s => match a s with
  | some (.d (.str z), o1) => some (z.cps.toList.map fun c => PyData.str ⟨#[c]⟩, o1)
  | _ => none
theorem si_str {te : TE} {a : EM} (ha : Sn te a) : SnI (iStr te) (mSigns a) := by
  intro Z M s σ H h items o' e R q
  unfold mSigns at e
  split at e
  · rename_i z o1 ea
    cases e
    refine ha Z M s σ H h _ _ ea _ fun M1 v1 H1 ⟨e1, m1⟩ h1 r1 => ?_
    subst m1
    have r2 : Rp (zz Z _) H1 v1 (.str z) := r1
    cases r2
    refine ⟨z, rfl, q _ H1 e1 h1 ?_⟩
    refine ⟨_, _, by rw [List.length_map, Array.length_toList]; exact L2.walk_str (z := z), fun _ _ _ => trivial, fun i H2 x H3 M2 e _ _ y => ?_⟩
    obtain ⟨rfl, c, hc, rfl⟩ := y
    exact ⟨New.refl _, _, by rw [List.getElem?_map]; simp [hc], .str _⟩
  · cases e
/-- for k in range(n) -/
def rangeD (n : Nat) : List D := (List.range n).map fun (i : Nat) => PyData.int (i : Int)
def mRange (a : AM) : IM := fun s => match a s with
  | some ([.d (.int n)], o1) => if n ≤ 100000 ∧ -100000 ≤ n then some (rangeD n.toNat, o1) else none
  | _ => none
theorem si_range1 {ta : TA} {a : AM} (ha : SnA ta a) : SnI (iRng1 ta) (mRange a) := by
  intro Z M s σ H h items o' e R q
  unfold mRange at e
  split at e
  · rename_i n o1 ea
    split at e
    · rename_i hn
      cases e
      refine ha Z M s σ H h _ _ ea _ fun M1 vs H1 ⟨e1, m1⟩ h1 r1 => ?_
      subst m1
      cases r1 with
      | cons hx t =>
        cases t
        have r2 : Rp (zz Z _) H1 _ (.int n) := hx
        cases r2
        refine ⟨n, rfl, by omega, by omega, q _ H1 e1 h1 ?_⟩
        refine ⟨_, _, by rw [show (rangeD n.toNat).length = n.toNat by simp [rangeD]]; exact L2.walk_range (lo := 0), fun _ _ _ => trivial, fun i H2 x H3 M2 e _ hi y => ?_⟩
        obtain ⟨rfl, rfl⟩ := y
        have hi2 : i < n.toNat := by simpa [rangeD] using hi
        refine ⟨New.refl _, .int (i : Int), by simp [rangeD, hi2], ?_⟩
        show Rp _ _ (V.int (0 + (i : Int))) _
        rw [Int.zero_add]
        exact .int _
    · cases e
  · cases e
/-- for k in range(a, b) -/
def rangeD2 (a : Int) (n : Nat) : List D := (List.range n).map fun (i : Nat) => PyData.int (a + (i : Int))
def mRange2 (a : AM) : IM := fun s => match a s with
  | some ([.d (.int i), .d (.int j)], o1) => if i ≤ 100000 ∧ -100000 ≤ i ∧ j ≤ 100000 ∧ -100000 ≤ j then some (rangeD2 i (j - i).toNat, o1) else none
  | _ => none
theorem si_range2 {ta : TA} {a : AM} (ha : SnA ta a) : SnI (iRng2 ta) (mRange2 a) := by
  intro Z M s σ H h items o' e R q
  unfold mRange2 at e
  split at e
  · rename_i i j o1 ea
    split at e
    · rename_i hn
      cases e
      refine ha Z M s σ H h _ _ ea _ fun M1 vs H1 ⟨e1, m1⟩ h1 r1 => ?_
      subst m1
      cases r1 with
      | cons hx t =>
        cases t with
        | cons hy t2 =>
          cases t2
          have r2 : Rp (zz Z _) H1 _ (.int i) := hx
          have r3 : Rp (zz Z _) H1 _ (.int j) := hy
          cases r2
          cases r3
          refine ⟨i, j, rfl, ⟨by omega, by omega, by omega, by omega⟩, q _ H1 e1 h1 ?_⟩
          refine ⟨_, _, by rw [show (rangeD2 i (j - i).toNat).length = (j - i).toNat by simp [rangeD2]]; exact L2.walk_range (lo := i), fun _ _ _ => trivial, fun k H2 x H3 M2 e _ hk y => ?_⟩
          obtain ⟨rfl, rfl⟩ := y
          have hk2 : k < (j - i).toNat := by simpa [rangeD2] using hk
          exact ⟨New.refl _, .int (i + (k : Int)), by simp [rangeD2, hk2], .int _⟩
    · cases e
  · cases e
/-! pairs: zip, enumerate -/
theorem src_pair {Z : Zs} {M : List Addr} {H : Hp} {J : It} {n : Nat} {G : Hp → Prop} {f g : Nat → Option V} {f' g' : Nat → Option D} (w : L2.Walk J n G (L2.YPair f g)) (hG : ∀ M2 H2, Ext M H M2 H2 → G H2)
    (hf : ∀ i x, f i = some x → ∃ d, f' i = some d ∧ ∀ M2 H2, Ext M H M2 H2 → Rp (zz Z M2) H2 x d) (hg : ∀ i x, g i = some x → ∃ d, g' i = some d ∧ ∀ M2 H2, Ext M H M2 H2 → Rp (zz Z M2) H2 x d)
    (items : List D) (hl : items.length = n) (hi : ∀ i d e, i < n → f' i = some d → g' i = some e → items[i]? = some (.tuple [d, e])) : Src Z M H J items := by
  refine ⟨G, _, by rw [hl]; exact w, hG, fun i H2 x H3 M2 e hz hin y => ?_⟩
  obtain ⟨T, u, v, rfl, hT, rfl, hu, hv⟩ := y
  obtain ⟨d1, h1, k1⟩ := hf i u hu
  obtain ⟨d2, h2, k2⟩ := hg i v hv
  have nw := New.upd (o := .tup [u, v]) hT
  exact ⟨nw, _, hi i d1 d2 (by rw [← hl]; exact hin) h1 h2, .tup (fresh_nz hz hT) upd_same (.cons ((k1 M2 H2 e).new nw) (.cons ((k2 M2 H2 e).new nw) .nil))⟩
def zipD : List D → List D → List D
  | x :: xs, y :: ys => .tuple [x, y] :: zipD xs ys
  | _, _ => []
theorem zipD_len : ∀ xs ys : List D, (zipD xs ys).length = min xs.length ys.length
  | [], _ => by simp [zipD]
  | _ :: _, [] => by simp [zipD]
  | x :: xs, y :: ys => by simp [zipD, zipD_len xs ys]
theorem zipD_get : ∀ (xs ys : List D) (i : Nat) (d e : D), xs[i]? = some d → ys[i]? = some e → (zipD xs ys)[i]? = some (.tuple [d, e])
  | [], _, _, _, _, h, _ => by simp at h
  | _ :: _, [], _, _, _, _, h => by simp at h
  | x :: xs, y :: ys, 0, d, e, h, h2 => by simp at h h2; subst h; subst h2; rfl
  | x :: xs, y :: ys, i + 1, d, e, h, h2 => by
    simp only [zipD, List.getElem?_cons_succ] at *
    exact zipD_get xs ys i d e h h2
def mZip (a : AM) : IM := fun s => match a s with
  | some ([.d (.list xs), .d (.list ys)], o1) => some (zipD xs ys, o1)
  | some ([.d (.tuple xs), .d (.tuple ys)], o1) => some (zipD xs ys, o1)
  | _ => none
theorem walk_zipT {K : PySem.W.Frag} {a b : Addr} {xs ys : List V} {n : Nat} (hn : n = min xs.length ys.length) : L2.Walk (ItzT K a b) n (fun H => SqT K H a xs ∧ SqT K H b ys) (L2.YPair (fun i => xs[i]?) (fun i => ys[i]?)) := by
  subst hn
  refine ⟨fun i _ hi q => ?_, fun _ q => ⟨xs, ys, q.1, q.2, by omega⟩, fun i H v H' _ q y => ?_⟩
  · have h1 : i < xs.length := by omega
    have h2 : i < ys.length := by omega
    exact ⟨xs, ys, xs[i], ys[i], q.1, q.2, by simp [h1], by simp [h2]⟩
  · obtain ⟨T, x, z, h1, h2, h3, h4, h5⟩ := y
    exact ⟨T, x, z, h1, h2, h3, h4 xs q.1, h5 ys q.2⟩
theorem pair_of {Z : Zs} {M : List Addr} {H : Hp} {xs : List V} {ds : List D} (r : RpA (zz Z M) H xs ds) (i : Nat) (x : V) (h : xs[i]? = some x) : ∃ d, ds[i]? = some d ∧ ∀ M2 H2, Ext M H M2 H2 → Rp (zz Z M2) H2 x d := by
  obtain ⟨d, h1, h2⟩ := r.getV h
  exact ⟨d, h1, fun M2 H2 e => e.mono_d h2⟩
theorem si_zip {K : PySem.W.Frag} {ta : TA} {a : AM} (ha : SnA ta a) : SnI (iZipA K ta) (mZip a) := by
  intro Z M s σ H h items o' e R q
  unfold mZip at e
  split at e
  · rename_i xs ys o1 ea
    cases e
    refine ha Z M s σ H h _ _ ea _ fun M1 vs H1 ⟨e1, m1⟩ h1 r1 => ?_
    subst m1
    cases r1 with
    | cons hx t =>
      cases t with
      | cons hy t2 =>
        cases t2
        have r2 : Rp (zz Z _) H1 _ (.list xs) := hx
        have r3 : Rp (zz Z _) H1 _ (.list ys) := hy
        cases r2 with
        | lst z2 hx2 rx2 =>
          cases r3 with
          | lst z3 hx3 rx3 =>
            refine ⟨_, _, _, _, rfl, .inl ⟨SqL.of hx2, SqL.of hx3, q _ H1 e1 h1 ?_⟩⟩
            exact src_pair (L2.walk_zip (K := K) rfl) (fun M2 H2 e => ⟨SqL.of (e.keepz z2 hx2), SqL.of (e.keepz z3 hx3)⟩) (pair_of rx2) (pair_of rx3) _ (by rw [zipD_len, rx2.length, rx3.length]) fun i d e _ a b => zipD_get xs ys i d e a b
  · rename_i xs ys o1 ea
    cases e
    refine ha Z M s σ H h _ _ ea _ fun M1 vs H1 ⟨e1, m1⟩ h1 r1 => ?_
    subst m1
    cases r1 with
    | cons hx t =>
      cases t with
      | cons hy t2 =>
        cases t2
        have r2 : Rp (zz Z _) H1 _ (.tuple xs) := hx
        have r3 : Rp (zz Z _) H1 _ (.tuple ys) := hy
        cases r2 with
        | tup z2 hx2 rx2 =>
          cases r3 with
          | tup z3 hx3 rx3 =>
            refine ⟨_, _, _, _, rfl, .inr ⟨SqT.of hx2, SqT.of hx3, q _ H1 e1 h1 ?_⟩⟩
            exact src_pair (walk_zipT (K := K) rfl) (fun M2 H2 e => ⟨SqT.of (e.keepz z2 hx2), SqT.of (e.keepz z3 hx3)⟩) (pair_of rx2) (pair_of rx3) _ (by rw [zipD_len, rx2.length, rx3.length]) fun i d e _ a b => zipD_get xs ys i d e a b
  · cases e
def enumD (k : Int) : List D → List D
  | [] => []
  | x :: xs => .tuple [.int k, x] :: enumD (k + 1) xs
theorem enumD_len : ∀ (xs : List D) (k : Int), (enumD k xs).length = xs.length
  | [], _ => rfl
  | x :: xs, k => by simp [enumD, enumD_len xs]
theorem enumD_get : ∀ (xs : List D) (k : Int) (i : Nat) (d : D), xs[i]? = some d → (enumD k xs)[i]? = some (.tuple [.int (k + i), d])
  | [], _, _, _, h => by simp at h
  | x :: xs, k, 0, d, h => by simp at h; subst h; simp [enumD]
  | x :: xs, k, i + 1, d, h => by
    simp only [enumD, List.getElem?_cons_succ] at *
    rw [enumD_get xs (k + 1) i d h]
    congr 4
    omega
/-! for -/
def loopM (g : GM) (b : SM) : List D → SM
  | [], s => some (.nx s)
  | d :: r, s => match g (.d d) s with
    | none => none
    | some s1 => match b s1 with
      | none => none
      | some (.nx s2) => loopM g b r s2
      | some (.ct s2) => loopM g b r s2
      | some (.bk s2) => some (.nx s2)
      | some (.rt v o) => some (.rt v o)
def mFor (im : IM) (g : GM) (b : SM) : SM := fun s => match im s with
  | none => none
  | some (items, o1) => loopM g b items (s.on o1)
theorem ss_for {wi : TI} {tg : TG} {tb : TS} {im : IM} {g : GM} {b : SM} (hi : SnI wi im) (hg : SnG tg g) (hb : SnS tb b) : SnS (tFor wi tg tb) (mFor im g b) := by
  intro Z M s σ H h out e E f
  unfold mFor at e
  split at e
  · cases e
  · rename_i items o1 ei
    refine hi Z M s σ H h items o1 ei _ fun J H1 e1 h1 src => ?_
    obtain ⟨G, Y, w, hG, hY⟩ := src
    refine L2.for_it w (fun i σ2 H2 => ∃ M2 s2, Ext M H1 M2 H2 ∧ Rel Z M2 s2 σ2 H2 ∧ loopM g b (items.drop i) s2 = some out) ⟨M, _, Ext.refl M H1, h1, e⟩ (fun i σ2 H2 _ ⟨M2, s2, x, _⟩ => hG M2 H2 x) ?_ ?_
    · rintro i x σ2 H2 H3 hin ⟨M2, s2, e2, h2, l2⟩ hy
      obtain ⟨nw, d, hd, rd⟩ := hY i H2 x H3 M2 e2 h2.r.zzd hin hy
      have edrop : items.drop i = d :: items.drop (i + 1) := by
        rw [List.drop_eq_getElem_cons hin]
        congr 1
        have := List.getElem?_eq_getElem hin
        rw [hd] at this
        exact (Option.some.inj this).symm
      rw [edrop] at l2
      unfold loopM at l2
      split at l2
      · cases l2
      · rename_i s3 es
        refine hg Z M2 s2 σ2 H3 (h2.new nw) x (.d d) rd s3 es _ fun M4 σ4 H4 e4 h4 => ?_
        have e24 : Ext M H1 M4 H4 := (e2.trans (Ext.new nw)).trans e4.toExt
        have e04 : Ext M H M4 H4 := e1.trans e24
        split at l2
        · cases l2
        · rename_i s5 eb
          refine hb Z M4 s3 σ4 H4 h4 _ eb _ ?_
          exact fun M6 σ6 H6 e6 h6 => ⟨M6, s5, e24.trans e6, h6, l2⟩
        · rename_i s5 eb
          refine hb Z M4 s3 σ4 H4 h4 _ eb _ ?_
          exact fun M6 σ6 H6 e6 h6 => ⟨M6, s5, e24.trans e6, h6, l2⟩
        · rename_i s5 eb
          cases l2
          refine hb Z M4 s3 σ4 H4 h4 _ eb _ ?_
          exact fun M6 σ6 H6 e6 h6 => f M6 σ6 H6 (e04.trans e6) h6
        · rename_i v5 o5 eb
          cases l2
          refine hb Z M4 s3 σ4 H4 h4 _ eb _ ?_
          exact fun M6 v6 H6 e6 h6 r6 => f M6 v6 H6 (e04.trans e6) h6 r6
    · rintro σ2 H2 ⟨M2, s2, e2, h2, l2⟩
      rw [List.drop_length] at l2
      unfold loopM at l2
      cases l2
      exact f M2 σ2 H2 (e1.trans e2) h2
/-! while -/
def whileM (c : TM) (b : SM) : Nat → SM
  | 0, _ => none
  | n + 1, s => match c s with
    | none => none
    | some (false, o1) => some (.nx (s.on o1))
    | some (true, o1) => match b (s.on o1) with
      | none => none
      | some (.nx s2) => whileM c b n s2
      | some (.ct s2) => whileM c b n s2
      | some (.bk s2) => some (.nx s2)
      | some (.rt v o) => some (.rt v o)
theorem ss_while {tc : TT} {tb : TS} {c : TM} {b : SM} (n : Nat) (hc : SnT tc c) (hb : SnS tb b) : SnS (tWhile tc tb) (whileM c b n) := by
  intro Z M s σ H h out e E f
  refine ⟨fun m σ2 H2 => ∃ M2 s2, Ext M H M2 H2 ∧ Rel Z M2 s2 σ2 H2 ∧ whileM c b m s2 = some out, ⟨n, M, s, Ext.refl M H, h, e⟩, ?_⟩
  rintro m σ2 H2 ⟨M2, s2, e2, h2, l2⟩
  cases m with
  | zero => unfold whileM at l2; cases l2
  | succ m =>
    unfold whileM at l2
    split at l2
    · cases l2
    · rename_i o1 ec
      cases l2
      refine hc Z M2 s2 σ2 H2 h2 _ _ ec _ fun M3 H3 ⟨e3, _⟩ h3 => ?_
      rw [if_neg (by decide)]
      exact f M3 σ2 H3 (e2.trans e3) h3
    · rename_i o1 ec
      refine hc Z M2 s2 σ2 H2 h2 _ _ ec _ fun M3 H3 ⟨e3, _⟩ h3 => ?_
      rw [if_pos rfl]
      have e03 := e2.trans e3
      refine ⟨fun σ4 H4 => ∃ M4 s4, Ext M H M4 H4 ∧ Rel Z M4 s4 σ4 H4 ∧ whileM c b m s4 = some out, fun σ4 H4 q => ⟨m, Nat.lt_succ_self m, q⟩, ?_⟩
      split at l2
      · cases l2
      · rename_i s5 eb
        refine hb Z M3 (s2.on o1) σ2 H3 h3 _ eb _ ?_
        exact fun M6 σ6 H6 e6 h6 => ⟨M6, s5, e03.trans e6, h6, l2⟩
      · rename_i s5 eb
        refine hb Z M3 (s2.on o1) σ2 H3 h3 _ eb _ ?_
        exact fun M6 σ6 H6 e6 h6 => ⟨M6, s5, e03.trans e6, h6, l2⟩
      · rename_i s5 eb
        cases l2
        refine hb Z M3 (s2.on o1) σ2 H3 h3 _ eb _ ?_
        exact fun M6 σ6 H6 e6 h6 => f M6 σ6 H6 (e03.trans e6) h6
      · rename_i v5 o5 eb
        cases l2
        refine hb Z M3 (s2.on o1) σ2 H3 h3 _ eb _ ?_
        exact fun M6 v6 H6 e6 h6 r6 => f M6 v6 H6 (e03.trans e6) h6 r6
end AP

/-! enumerate of a tuple; comprehensions. -/
namespace AP
open PySem PySem.Spec PyProof.Rows L2 RZ
theorem meets_enum1 {v : Value} {o : Obj} {H : Heap → Prop} (B : Begins v o H) :
    Meets (Builtin.«enumerate.__new__» ⟨[.type "enumerate", v], []⟩) (fun _ R s => H s.heap ∧
      R (.ok (.ret (.ref (s.heap.push o).objs.size))) { s with heap := (s.heap.push o).push { cls := .type "enumerate", data := .fields #[.none, .bool false, .ref s.heap.objs.size, rawInt 0, .none, .none] } }) := by
  refine .of_wp fun prog w A R s h => ?_
  obtain ⟨hp, g, d, tk, os⟩ := s
  obtain ⟨h1, h⟩ := h
  have hsub := sub_enumerate
  have q1 : ∀ {A' : Around} {E : Value → Shared → Prop} {Q : Value → Shared → Prop}, Q (.ref hp.objs.size) ⟨hp.push o, g, d, tk, os⟩ → wpAny (model prog w) A' (pyIter v) Q E ⟨hp, g, d, tk, os⟩ := fun q => B.iter prog w _ _ ⟨hp, g, d, tk, os⟩ _ h1 q
  wp_walk using q1
  refine wpAny_stack_any fun st => wpAny_pure ?_
  split
  · rename_i c _ _ _ _ _
    cases (c == Value.type "enumerate") <;> (wp_walk using q1; exact ⟨_, rfl, h⟩)
  · wp_walk using q1
    exact ⟨_, rfl, h⟩
theorem call_enumB {prog : Program} {w : World} {A : Around} {E : Value → Shared → Prop} {s : Shared} {v : Value} {o : Obj} {H : Heap → Prop} {Q : Value → Shared → Prop} (B : Begins v o H) (h1 : H s.heap)
    (h : ∀ h', IsEnum h' (s.heap.objs.size + 1) s.heap.objs.size 0 .none → h'.get? s.heap.objs.size = some o → (∀ b u, s.heap.get? b = some u → h'.get? b = some u) → Q (.ref (s.heap.objs.size + 1)) { s with heap := h' }) :
    wpAny (model prog w) A (call (.type "enumerate") [v]) Q E s := by
  refine callType_new F.called_enumerate (by decide) (F.typeCall_enumerate_1 _) (F.newCall_enumerate_1 _) (fun obj => F.args_object_init_2 obj _) F.entry_enumerate_new (meets_enum1 B) ⟨h1, ?_⟩
  have hz : (s.heap.push o).objs.size = s.heap.objs.size + 1 := Heap.size_push ..
  show _ ∧ _
  rw [hz]
  have he : IsEnum ((s.heap.push o).push { cls := .type "enumerate", data := .fields #[.none, .bool false, .ref s.heap.objs.size, rawInt 0, .none, .none] }) (s.heap.objs.size + 1) s.heap.objs.size 0 .none := by
    have z := Heap.get?_push_size (s.heap.push o) (o := { cls := .type "enumerate", data := .fields #[.none, .bool false, .ref s.heap.objs.size, rawInt 0, .none, .none] }) rfl
    rw [hz] at z
    exact z
  exact ⟨⟨_, he, rfl⟩, h _ he (Heap.get?_push_of_some _ (Heap.get?_push_size _ B.free)) fun b u x => Heap.get?_push_of_some _ (Heap.get?_push_of_some _ x)⟩
/-- the tuple at a as it stands at each turn, each item in a new pair with its number -/
def IteT (K : PySem.W.Frag) (a : Addr) : It where
  go i H := ∃ (xs : List V) (x : V), SqT K H a xs ∧ xs[i]? = some x
  yld i H v H' := ∃ T x, v = .ref T ∧ H T = none ∧ H' = upd H T (.tup [.int (i : Nat), x]) ∧ ∀ xs, SqT K H a xs → xs[i]? = some x
  stop i H := ∃ xs : List V, SqT K H a xs ∧ xs.length = i
/-- where such a walk stands -/
def AtT (a e it : Addr) (i : Nat) (h : Heap) : Prop := (∃ old, IsEnum h e it ((i : Nat) : Int) old) ∧ h.IsTupleIter it a i ∧ e ≠ it ∧ a ≠ it ∧ e ≠ a
theorem turn_enumT {P : Program} {w : World} {K : PySem.W.Frag} {elts : List Expr} {kk : Nat} {tpos : Pos} (a e it : Addr) : Turn P w K (.Tuple elts kk tpos) (IteT K a) [e, it] e (AtT a e it) := by
  constructor
  case mem => simp
  case obj =>
    rintro i h ⟨⟨old, he⟩, ⟨o, ho, hc, hd⟩, _⟩ b hb
    rcases (by simpa using hb : b = e ∨ b = it) with z | z
    · rw [z]; exact ⟨_, he, fun v q => nomatch q⟩
    · rw [z]; exact ⟨o, ho, fun v q => by rw [hd] at q; cases q⟩
  case keep =>
    rintro i h h' ⟨⟨old, he⟩, hi, ne⟩ k
    exact ⟨⟨old, k e (by simp) _ he⟩, hi.at fun o q => k it (by simp) o q, ne⟩
  case item =>
    intro X hP hw hK hc i pins s σ H E I hf st hg
    subst hP hw hK
    obtain ⟨⟨old, he⟩, hit, ne1, ne2, ne3⟩ := st
    obtain ⟨xs, x, hq, hx⟩ := hg
    obtain ⟨its, rv, p, hz⟩ := I.tuple hq
    obtain ⟨u, hu, ru⟩ := rv.get hx
    have lte : e < s.heap.objs.size := Heap.lt_size he
    have lti : it < s.heap.objs.size := by obtain ⟨_, q, _⟩ := hit; exact Heap.lt_size q
    have lta : a < s.heap.objs.size := by obtain ⟨_, q, _⟩ := id p; exact Heap.lt_size q
    have Dr := Draws.tuple (prog := X.prog) (w := X.w) (A := X.A.in1) (I.ok.hd hc) it a ne2 its.toArray
    have hlt : i < its.toArray.size := by
      have := (List.getElem?_eq_some_iff.mp hu).1
      simpa using this
    refine wpAny_pyNext_enum_itemD Dr he ⟨hit, p⟩ hlt ne1 (by simp only [List.mem_cons, List.not_mem_nil, or_false, not_or]; exact ⟨ne1, ne3⟩) fun y h' tk hy ho hst hT hsz hk => ?_
    have ey : y = u := by
      have h2 : its.toArray[i]? = some u := by simpa using hu
      exact Option.some.inj (hy.symm.trans h2)
    subst ey
    refine ⟨_, rfl, wpAny_letOwnedTupleGo_enum (s := { s with heap := h', toks := tk + 1 }) ho fun h2 he2 sb => ?_⟩
    have hT2 : h2.get? s.heap.objs.size = some { cls := .type "tuple", data := .seq #[.int i tk, y] } := (sb.2 _ (Nat.ne_of_gt lte)).trans hT
    have new : ObjOk X.prog X.w (upd H s.heap.objs.size (.tup [.int (i : Nat), x])) h2 s.heap.objs.size (.tup [.int (i : Nat), x]) :=
      ⟨by show 2 ≤ sizeLine; decide, [.int i tk, y], .cons ⟨_, rfl⟩ (.cons ru .nil), ⟨_, hT2, rfl, _, rfl⟩⟩
    have I1 : L2.Inv X pins σ (upd H s.heap.objs.size (.tup [.int (i : Nat), x])) { s with heap := h2, toks := tk + 1 } :=
      I.turnedNew (ch := [e, it]) (fun b ob hb q => (sb.2 b (fun z => hb (by simp [z]))).trans (hk b ob (fun z => hb (by simp [z])) (fun z => hb (by simp [z])) q)) hf (Nat.le_refl _) new
    refine ⟨.ref s.heap.objs.size, _, I1, rfl, ⟨_, x, rfl, I.hok.fresh (Nat.le_refl _), rfl, fun ys hy => by rw [I.tuple_inj hy hq]; exact hx⟩, ⟨⟨y, ?_⟩, hst.1.at fun o q => (sb.2 it (Ne.symm ne1)).trans q, ne1, ne2, ne3⟩, fun b hb => ?_⟩
    · have e1 : ((i + 1 : Nat) : Int) = (i : Int) + 1 := by omega
      rw [e1]; exact he2
    · have hb' : b < s.heap.objs.size := by
        rcases (by simpa using hb : b = e ∨ b = it) with z | z
        · rw [z]; exact lte
        · rw [z]; exact lti
      rw [upd_ne (Nat.ne_of_lt hb')]
      exact (hf b hb).1
  case done =>
    intro X hP hw hK hc i pins s σ H E I hf st hg
    subst hP hw hK
    obtain ⟨⟨old, he⟩, hit, ne1, ne2, ne3⟩ := st
    obtain ⟨xs, hq, hx⟩ := hg
    obtain ⟨its, rv, p, hz⟩ := I.tuple hq
    obtain ⟨f0, f1, f2, f3, f4, f5⟩ := hf it (by simp)
    have hl : its.toArray.size = i := by rw [List.size_toArray, ← rv.length]; exact hx
    have Dr := Draws.tuple (prog := X.prog) (w := X.w) (A := X.A.in1) (I.ok.hd hc) it a ne2 its.toArray
    rw [hl] at Dr
    exact wpAny_pyNext_enum_endD Dr he ⟨hit, p⟩ fun h' eb => ⟨rfl, I.turned (t' := s.toks) (fun b o hb q => eb b o hb q) f0 f1 f3 f4 f5⟩
  case self => exact fun A i s Q E st h => wpAny_pyIter_enum st.1.choose_spec h
theorem walk_enumT {K : PySem.W.Frag} {a : Addr} {xs : List V} : L2.Walk (IteT K a) xs.length (fun H => SqT K H a xs) (L2.YPair (fun i => some (.int (i : Nat))) (fun i => xs[i]?)) := by
  refine ⟨fun i _ hi q => ⟨xs, xs[i], q, by simp [hi]⟩, fun _ q => ⟨xs, q, rfl⟩, fun i H v H' _ q y => ?_⟩
  obtain ⟨T, x, h1, h2, h3, h4⟩ := y
  exact ⟨T, .int (i : Nat), x, h1, h2, h3, rfl, h4 xs q⟩
def iEnT (K : PySem.W.Frag) (ta : TA) : TI := fun σ H R => ta σ H fun vs H1 => ∃ a xs, vs = [.ref a] ∧ SqT K H1 a xs ∧ R (IteT K a) H1
theorem pi_enT {X : Cx} {e : Expr} {ta : TA} {p pos tpos : Pos} {elts : List Expr} {kk : Nat} (hg : Gl X "enumerate") (hm : X.mg "enumerate" = none) (ha : PA X [e] ta) (hs : starEach [e] X.env = [(false, eval e X.env)] := by rfl) :
    PI X (.Tuple elts kk tpos) (.Call (.Name "enumerate" p) [e] [] pos) (iEnT X.K ta) := by
  constructor
  intro pins s σ H R I h
  refine Call_ (ld_blt I hg hm boot_enumerate (PyProof.Rows.callWith_type1 (thn (ha.run pos pins s σ H _ I h) ?_) hs rfl))
  rintro us s1 ⟨vs, H1, I1, r1, a, xs, ex, hq, q⟩
  subst ex
  cases r1 with
  | cons r rr =>
    cases rr
    cases r
    obtain ⟨its, rv, p', hz⟩ := I1.tuple hq
    have lta : a < s1.heap.objs.size := by obtain ⟨_, z, _⟩ := id p'; exact Heap.lt_size z
    refine call_enumB (begins_tuple a its.toArray) p' fun h' he hit hk => wpAny_pyIter_enum he ?_
    have I2 : L2.Inv X pins σ H1 { s1 with heap := h' } := I1.kept (t' := s1.toks) hk
    refine ⟨s1.heap.objs.size + 1, [s1.heap.objs.size + 1, s1.heap.objs.size], _, _, H1, rfl, I2, turn_enumT a (s1.heap.objs.size + 1) s1.heap.objs.size, ⟨⟨.none, he⟩, ⟨_, hit, rfl, rfl⟩, Nat.succ_ne_self _, Nat.ne_of_lt lta, Nat.ne_of_gt (Nat.lt_succ_of_lt lta)⟩, fun b hb => ?_, q⟩
    have hle : s1.heap.objs.size ≤ b := by
      rcases (by simpa using hb : b = s1.heap.objs.size + 1 ∨ b = s1.heap.objs.size) with z | z
      · rw [z]; exact Nat.le_succ _
      · rw [z]; exact Nat.le_refl _
    exact I1.fpOk hle (I1.hok.fresh hle)
def mEnum (a : AM) : IM := fun s => match a s with
  | some ([.d (.list xs)], o1) => some (enumD 0 xs, o1)
  | some ([.d (.tuple xs)], o1) => some (enumD 0 xs, o1)
  | _ => none
def iEnA (K : PySem.W.Frag) (ta : TA) : TI := fun σ H R => iEnum K ta σ H R ∨ iEnT K ta σ H R
theorem pi_enA {X : Cx} {e : Expr} {ta : TA} {p pos tpos : Pos} {elts : List Expr} {kk : Nat} (hg : Gl X "enumerate") (hm : X.mg "enumerate" = none) (ha : PA X [e] ta) (hs : starEach [e] X.env = [(false, eval e X.env)] := by rfl) :
    PI X (.Tuple elts kk tpos) (.Call (.Name "enumerate" p) [e] [] pos) (iEnA X.K ta) := pi_or (pi_enum hg hm ha hs) (pi_enT hg hm ha hs)
theorem enum_items {Z : Zs} {M : List Addr} {H : Hp} {xs : List V} {ds : List D} {J : It} {G : Hp → Prop} (w : L2.Walk J xs.length G (L2.YPair (fun i => some (.int (i : Nat))) (fun i => xs[i]?))) (r : RpA (zz Z M) H xs ds) (hG : ∀ M2 H2, Ext M H M2 H2 → G H2) :
    Src Z M H J (enumD 0 ds) := by
  refine src_pair (f' := fun i => some (.int (i : Int))) (g' := fun i => ds[i]?) w hG (fun i x hx => ?_) (pair_of r) _ (by rw [enumD_len, r.length]) fun i d e _ a b => ?_
  · cases hx; exact ⟨_, rfl, fun M2 H2 e => .int _⟩
  · cases a
    have z := enumD_get ds 0 i e b
    rw [Int.zero_add] at z
    exact z
theorem si_enum {K : PySem.W.Frag} {ta : TA} {a : AM} (ha : SnA ta a) : SnI (iEnA K ta) (mEnum a) := by
  intro Z M s σ H h items o' e R q
  unfold mEnum at e
  split at e
  · rename_i xs o1 ea
    cases e
    refine .inl (ha Z M s σ H h _ _ ea _ fun M1 vs H1 ⟨e1, m1⟩ h1 r1 => ?_)
    subst m1
    cases r1 with
    | cons hx t =>
      cases t
      have r2 : Rp (zz Z _) H1 _ (.list xs) := hx
      cases r2 with
      | lst z2 hx2 rx2 => exact ⟨_, _, rfl, SqL.of hx2, q _ H1 e1 h1 (enum_items (L2.walk_enum (K := K)) rx2 fun M2 H2 e => SqL.of (e.keepz z2 hx2))⟩
  · rename_i xs o1 ea
    cases e
    refine .inr (ha Z M s σ H h _ _ ea _ fun M1 vs H1 ⟨e1, m1⟩ h1 r1 => ?_)
    subst m1
    cases r1 with
    | cons hx t =>
      cases t
      have r2 : Rp (zz Z _) H1 _ (.tuple xs) := hx
      cases r2 with
      | tup z2 hx2 rx2 => exact ⟨_, _, rfl, SqT.of hx2, q _ H1 e1 h1 (enum_items (walk_enumT (K := K)) rx2 fun M2 H2 e => SqT.of (e.keepz z2 hx2))⟩
  · cases e
/-! comprehensions -/
def wipeS (σ : List (Option SV)) : List Nat → List (Option SV)
  | [] => σ
  | v :: vs => (wipeS σ vs).set v none
/-- a target stores at these slots alone -/
structure GK (vs : List Nat) (g : TG) : Prop where
  mono : ∀ v σ H (Q Q' : L2.St → Hp → Prop), (∀ σ' H', Q σ' H' → Q' σ' H') → g v σ H Q → g v σ H Q'
  kept : ∀ v σ H (Q : L2.St → Hp → Prop), g v σ H (fun σ' H' => wipe σ' vs = wipe σ vs → Q σ' H') → g v σ H Q
structure GKs (vs : List Nat) (g : TGs) : Prop where
  mono : ∀ v σ H (Q Q' : L2.St → Hp → Prop), (∀ σ' H', Q σ' H' → Q' σ' H') → g v σ H Q → g v σ H Q'
  kept : ∀ v σ H (Q : L2.St → Hp → Prop), g v σ H (fun σ' H' => wipe σ' vs = wipe σ vs → Q σ' H') → g v σ H Q
theorem wipe_set {σ : L2.St} {j : Nat} {x : Option V} : ∀ {vs : List Nat}, j ∈ vs → wipe (σ.set j x) vs = wipe σ vs
  | [], h => by simp at h
  | v :: vs, h => by
    show (wipe (σ.set j x) vs).set v none = (wipe σ vs).set v none
    by_cases hj : j ∈ vs
    · rw [wipe_set hj]
    · have e : j = v := by simpa [hj] using h
      subst e
      have k : ∀ (us : List Nat) (τ : L2.St), j ∉ us → wipe (τ.set j x) us = (wipe τ us).set j x := by
        intro us
        induction us with
        | nil => intro τ _; rfl
        | cons u us ih =>
          intro τ hu
          simp only [List.mem_cons, not_or] at hu
          show (wipe (τ.set j x) us).set u none = ((wipe τ us).set u none).set j x
          rw [ih τ hu.2, List.set_comm _ _ hu.1]
      rw [k vs σ hj, List.set_set]
theorem gk_name {vs : List Nat} {i : Nat} (h : i ∈ vs) : GK vs (gName i) := ⟨fun v σ H Q Q' k q => k _ _ q, fun v σ H Q q => q (wipe_set h)⟩
theorem gks_nil {vs : List Nat} : GKs vs gNil := ⟨fun v σ H Q Q' k q => ⟨q.1, k _ _ q.2⟩, fun v σ H Q q => ⟨q.1, q.2 rfl⟩⟩
theorem gks_cons {vs : List Nat} {t : TG} {u : TGs} (a : GK vs t) (b : GKs vs u) : GKs vs (gCons t u) := by
  refine ⟨fun v σ H Q Q' k q => ?_, fun v σ H Q q => ?_⟩
  · obtain ⟨x, r, e, q⟩ := q
    exact ⟨x, r, e, a.mono _ _ _ _ _ (fun σ' H' z => b.mono _ _ _ _ _ k z) q⟩
  · obtain ⟨x, r, e, q⟩ := q
    refine ⟨x, r, e, a.kept _ _ _ _ (a.mono _ _ _ _ _ (fun σ' H' z w => b.kept _ _ _ _ (b.mono _ _ _ _ _ (fun σ2 H2 z2 w2 => z2 (w2.trans w)) z)) q)⟩
theorem gk_tup {vs : List Nat} {K : PySem.W.Frag} {n : Nat} {t : TGs} (a : GKs vs t) : GK vs (gTup K n t) := by
  refine ⟨fun v σ H Q Q' k q => ?_, fun v σ H Q q => ?_⟩
  · obtain ⟨x, xs, e, e2, e3, q⟩ := q
    exact ⟨x, xs, e, e2, e3, a.mono _ _ _ _ _ k q⟩
  · obtain ⟨x, xs, e, e2, e3, q⟩ := q
    exact ⟨x, xs, e, e2, e3, a.kept _ _ _ _ q⟩
def mYes : TM := fun s => some (true, s.o)
theorem sn_yes : SnT tYes mYes := by
  intro Z M s σ H h r o' e Q q
  cases e
  exact q M H (Ex2.refl M H) h
def lcLoop (k : Nat) (g : GM) (c : TM) (e : EM) (τ : List (Option SV)) : List D → List MO → Option (List MO)
  | [], o => some o
  | d :: r, o => match g (.d d) ⟨τ, o⟩ with
    | none => none
    | some s2 => match c s2 with
      | none => none
      | some (false, o3) => lcLoop k g c e τ r o3
      | some (true, o3) => match e (s2.on o3) with
        | some (.d x, o4) => (match o4[k]? with
          | some (.l acc) => if acc.length < 100000 then lcLoop k g c e τ r (o4.set k (.l (acc ++ [x]))) else none
          | _ => none)
        | _ => none
def mLc (im : IM) (g : GM) (c : TM) (e : EM) (vs : List Nat) : NM := fun s => match im s with
  | none => none
  | some (items, o1) => match lcLoop o1.length g c e (wipeS s.σ vs) items (o1 ++ [.l []]) with
    | none => none
    | some oF => (match oF[o1.length]? with
      | some (.l acc) => some (.l acc, oF.take o1.length)
      | _ => none)
theorem rel_wipe {Z : Zs} {M : List Addr} {s : S} {σ : L2.St} {H : Hp} (h : Rel Z M s σ H) : ∀ vs : List Nat, Rel Z M ⟨wipeS s.σ vs, s.o⟩ (wipe σ vs) H
  | [] => h
  | v :: vs => by
    have ih := rel_wipe h vs
    refine ⟨ih.r, fun i sv q => ?_, ?_⟩
    · have q' : ((wipeS s.σ vs).set v none)[i]? = some (some sv) := q
      by_cases hi : v = i
      · subst hi
        by_cases hl : v < (wipeS s.σ vs).length
        · rw [List.getElem?_set_self hl] at q'; cases q'
        · rw [List.getElem?_eq_none (by simpa using hl)] at q'; cases q'
      · rw [List.getElem?_set_ne hi] at q'
        obtain ⟨u, h1, h2⟩ := ih.sl i sv q'
        refine ⟨u, ?_, h2⟩
        show ((wipe σ vs).set v none)[i]? = _
        rw [List.getElem?_set_ne hi]
        exact h1
    · show ((wipeS s.σ vs).set v none).length = ((wipe σ vs).set v none).length
      rw [List.length_set, List.length_set]
      exact ih.sn
theorem wipe_wipe (σ : L2.St) : ∀ vs us : List Nat, (∀ v ∈ us, v ∈ vs) → wipe (wipe σ vs) us = wipe σ vs
  | vs, [], _ => rfl
  | vs, u :: us, h => by
    show (wipe (wipe σ vs) us).set u none = wipe σ vs
    rw [wipe_wipe σ vs us fun v hv => h v (List.mem_cons_of_mem _ hv)]
    apply List.ext_getElem?
    intro i
    by_cases hi : u = i
    · subst hi
      by_cases hl : u < (wipe σ vs).length
      · rw [List.getElem?_set_self hl]
        cases e : (wipe σ vs)[u]? with
        | none => rw [List.getElem?_eq_getElem hl] at e; cases e
        | some o =>
          cases o with
          | none => rfl
          | some x => exact absurd (h u List.mem_cons_self) (wipe_some e).2
      · rw [List.getElem?_eq_none (by simpa using hl), List.getElem?_eq_none (by simpa using hl)]
    · rw [List.getElem?_set_ne hi]
theorem sn_lc {wi : TI} {tg : TG} {tt : TT} {te : TE} {vs : List Nat} {im : IM} {g : GM} {c : TM} {e : EM} (hi : SnI wi im) (hg : SnG tg g) (gk : GK vs tg) (hc : SnT tt c) (he : Sn te e) : SnN (tLc wi tg tt te vs) (mLc im g c e vs) := by
  intro Z M s σ H h r o' ev Q q
  unfold mLc at ev
  split at ev
  · cases ev
  · rename_i items o1 ei
    split at ev
    · cases ev
    · rename_i oF el
      split at ev
      · rename_i acc hacc
        cases ev
        refine hi Z M s σ H h items o1 ei _ fun J H1 e1 h1 src => ?_
        obtain ⟨G, Y, w, hG, hY⟩ := src
        intro Dl hD
        have k1 : o1.length = M.length := h1.r.len
        obtain ⟨n1, n2⟩ := own_new (ob := .lst []) (r := .l []) h1 hD ⟨[], rfl, .nil⟩
        have w1 := rel_wipe n1 vs
        have atD : ∀ M2 : List Addr, M2 = M ++ [Dl] → M2[o1.length]? = some Dl := fun M2 e => by
          rw [e, k1, List.getElem?_append_right (Nat.le_refl _)]; simp
        refine L2.lc_it w (fun i H2 => ∃ o2, Ext M H1 (M ++ [Dl]) H2 ∧ Rel Z (M ++ [Dl]) ⟨wipeS s.σ vs, o2⟩ (wipe σ vs) H2 ∧ lcLoop o1.length g c e (wipeS s.σ vs) (items.drop i) o2 = some oF)
          ⟨_, n2, w1, el⟩ (fun i H2 _ ⟨o2, x, _⟩ => hG _ H2 x) ?_ ?_
        · rintro i x H2 H3 hin ⟨o2, e2, h2, l2⟩ hy
          obtain ⟨nw, d, hd, rd⟩ := hY i H2 x H3 (M ++ [Dl]) e2 h2.r.zzd hin hy
          have edrop : items.drop i = d :: items.drop (i + 1) := by
            rw [List.drop_eq_getElem_cons hin]
            congr 1
            have z := List.getElem?_eq_getElem hin
            rw [hd] at z
            exact (Option.some.inj z).symm
          rw [edrop] at l2
          unfold lcLoop at l2
          split at l2
          · cases l2
          · rename_i s3 es
            refine gk.kept _ _ _ _ ?_
            refine hg Z _ _ _ H3 (h2.new nw) x (.d d) rd s3 es _ fun M4 σ4 H4 ⟨e4, m4⟩ h4 w4 => ?_
            subst m4
            rw [wipe_wipe σ vs vs fun _ z => z] at w4
            refine ⟨w4, ?_⟩
            have e24 : Ext M H1 (M ++ [Dl]) H4 := (e2.trans (Ext.new nw)).trans e4
            have back : ∀ {o5 : List MO} {H5 : Hp}, Ext (M ++ [Dl]) H4 (M ++ [Dl]) H5 → Rob Z (M ++ [Dl]) o5 H5 → Rel Z (M ++ [Dl]) ⟨wipeS s.σ vs, o5⟩ (wipe σ vs) H5 := fun {o5 H5} e5 r5 =>
              (h2.ext_on (o := o5) (((Ext.new nw).trans e4).trans e5) r5)
            split at l2
            · cases l2
            · rename_i o5 ec
              refine hc Z _ s3 σ4 H4 h4 _ _ ec _ fun M5 H5 ⟨e5, m5⟩ h5 => ?_
              subst m5
              rw [if_neg (by decide)]
              exact ⟨o5, e24.trans e5, back e5 h5.r, l2⟩
            · rename_i o5 ec
              refine hc Z _ s3 σ4 H4 h4 _ _ ec _ fun M5 H5 ⟨e5, m5⟩ h5 => ?_
              subst m5
              rw [if_pos rfl]
              split at l2
              · rename_i x6 o6 ee
                refine he Z _ (s3.on o5) σ4 H5 h5 _ _ ee _ fun M6 v6 H6 ⟨e6, m6⟩ h6 r6 => ?_
                subst m6
                split at l2
                · rename_i acc6 ha6
                  split at l2
                  · rename_i hl6
                    obtain ⟨xs, hx, rx⟩ := h6.r.ob o1.length Dl _ (atD _ rfl) ha6
                    obtain ⟨g1, g2⟩ := own_mut (ob := .lst (xs ++ [v6])) (r := .l (acc6 ++ [x6])) h6 (atD _ rfl) ⟨_, rfl, rpA_snoc rx r6⟩
                    refine ⟨xs, hx, Nat.lt_of_lt_of_le (by rw [rx.length]; exact hl6) (small_line (Nat.le_refl _)), _, ((e24.trans e5).trans e6).trans g2, back ((e5.trans e6).trans g2) g1.r, l2⟩
                  · cases l2
                · cases l2
              · cases l2
        · rintro H2 ⟨o2, e2, h2, l2⟩
          rw [List.drop_length] at l2
          unfold lcLoop at l2
          cases l2
          have hl : oF.length = o1.length + 1 := by
            have z := h2.r.len
            simp at z
            rw [k1]; exact z
          have eo : oF.take o1.length ++ [.l acc] = oF := by
            have z := List.take_append_getElem (show o1.length < oF.length by omega)
            have z2 := List.getElem?_eq_getElem (show o1.length < oF.length by omega)
            rw [hacc] at z2
            rw [Option.some.inj z2, z, List.take_of_length_le (by omega)]
          refine q M Dl H2 rfl (e1.trans e2) ?_
          rw [eo]
          exact h.ext_on (o := oF) (e1.trans e2) h2.r
      · cases ev
end AP

/-! Defs by functions of data. -/
namespace AP
open PySem PySem.Spec PyProof.Rows L2 RZ
abbrev Fun1 := List D → Option D
/-- a def that changes nothing and hands back data -/
def spP (n : Nat) (f : Fun1) : Sp := fun vs H Q _ => ∃ (Z : Zs) (ds : List D) (d : D), (∀ a, Z a → H a ≠ none) ∧ RpA Z H vs ds ∧ ds.length = n ∧ f ds = some d ∧ ∀ v H', New H H' → Rp Z H' v d → Q v H'
/-- the slots at the entry -/
def st0 (N : Nat) (xs : List SV) : List (Option SV) := xs.map some ++ List.replicate (N - xs.length) none
theorem st0_rel {Z : Zs} {M : List Addr} {H : Hp} {vs : List V} {xs : List SV} {o : List MO} {N : List Str} (r : Rob Z M o H) (h : RvA Z M H vs xs) : Rel Z M ⟨st0 N.length xs, o⟩ (start N vs) H := by
  have hl : vs.length = xs.length := by
    clear r
    induction h with
    | nil => rfl
    | cons _ _ ih => simp [ih]
  have get : ∀ {us : List V} {ys : List SV}, RvA Z M H us ys → ∀ (i : Nat) (sv : SV), ys[i]? = some sv → ∃ v, us[i]? = some v ∧ Rv Z M H v sv := by
    intro us ys q
    induction q with
    | nil => intro i sv e; simp at e
    | cons hv _ ih =>
      intro i sv e
      cases i with
      | zero => simp at e; subst e; exact ⟨_, rfl, hv⟩
      | succ i => simp at e; obtain ⟨v, a, b⟩ := ih i sv e; exact ⟨v, by simpa using a, b⟩
  refine ⟨r, fun i sv q => ?_, by simp [st0, L2.start, hl]⟩
  have q' : (xs.map some ++ List.replicate (N.length - xs.length) none)[i]? = some (some sv) := q
  by_cases hi : i < xs.length
  · rw [List.getElem?_append_left (by simpa using hi), List.getElem?_map] at q'
    obtain ⟨x, e1, e2⟩ := Option.map_eq_some_iff.mp q'
    cases e2
    obtain ⟨v, a, b⟩ := get h i sv e1
    refine ⟨v, ?_, b⟩
    unfold L2.start
    rw [List.getElem?_append_left (by simpa [hl] using hi), List.getElem?_map, a]
    rfl
  · rw [List.getElem?_append_right (by simpa using hi), List.getElem?_replicate] at q'
    split at q' <;> cases q'
/-- what is handed back, as data -/
def retD : Option Out → Option D
  | some (.rt v o) => vw o v
  | some (.nx _) => some .none
  | _ => none
def runP (N : Nat) (m : SM) : Fun1 := fun ds => retD (m ⟨st0 N (ds.map .d), []⟩)
theorem rvA_dats {Z : Zs} {H : Hp} : ∀ {vs : List V} {ds : List D}, RpA Z H vs ds → RvA Z [] H vs (ds.map .d)
  | _, _, .nil => .nil
  | _, _, .cons h r => .cons (h.mono fun a o z q => ⟨fun y => y.elim z (by simp), q⟩) (rvA_dats r)
/-- all that could change is given up: what stands there is data -/
theorem given_up {Z : Zs} {M : List Addr} {o : List MO} {H : Hp} {v : V} {sv : SV} {d : D} (r : Rob Z M o H) (h : Rv Z M H v sv) (e : vw o sv = some d) : Rp Z H v d := by
  have k : ∀ (a : Addr) (u : HO), ¬ zz Z M a → H a = some u → ¬ Z a ∧ H a = some u := fun a u z q => ⟨fun y => z (.inl y), q⟩
  cases sv with
  | d x => cases e; exact Rp.mono k h
  | m i =>
    obtain ⟨a, q, rfl⟩ := h
    simp only [vw] at e
    cases ho : o[i]? with
    | none => rw [ho] at e; cases e
    | some x =>
      rw [ho] at e
      have p := r.ob i a x q ho
      have nz : ¬ Z a := r.nz a (List.mem_of_getElem? q)
      cases x with
      | l ds => cases e; obtain ⟨xs, p1, p2⟩ := p; exact .lst nz p1 (p2.mono k)
      | k ps => cases e; obtain ⟨xs, p1, p2⟩ := p; exact .dct nz p1 (p2.mono k)
  | w u => cases e
theorem ext_new {M' : List Addr} {H H' : Hp} (e : Ext [] H M' H') : New H H' := fun a o q => (e.keep a o (by simp) q).2
section
variable {P : Program} {w : World} {K : PySem.W.Frag} {mg : Str → Option Value} {base : Heap} {x qual : Str} {params : Arguments} {body : List Stmt} {scope : Scope} {dvs : List V} {kws : List (Str × V)} {f : Addr} {fd : FuncData}
/-- a def's promise from its body's function -/
theorem def_pure {N ps : List Str} {k : Nat} {t : TS} {m : SM} (F : FunD K x qual params body scope dvs kws f fd) (sc : FnScope N ps scope)
    (reading : ∀ (cdv : Value) (A : Around) (outer : List Env) (s : Shared) (H : Hp) (E : XK), A.guards = some [] → Room k (A.deeper (envOfC qual scope s.heap.objs.size f cdv)) → PSs (cxOf CX0 P w K mg base N qual scope f cdv A outer s H E) body t)
    (hm : SnS t m) : FnG P w K mg base CX0 (k + 1) f fd ps (spP ps.length (runP N.length m)) := by
  refine fnG_ok F sc (fun vs H Q E h => ?_) (fun cdv A outer s H vs Q E hg hr h => ⟨t, reading cdv A outer s H E hg hr, ?_⟩)
  · obtain ⟨Z, ds, d, _, r, hl, _⟩ := h
    rw [r.length, hl]
  · obtain ⟨Z, ds, d, hz, r, hl, hf, q⟩ := h
    unfold runP retD at hf
    have rob : Rob Z [] [] H := ⟨List.nodup_nil, hz, by simp, rfl, fun k a x e => by simp at e⟩
    have rel := st0_rel (N := N) rob (rvA_dats r)
    split at hf
    · rename_i v o' em
      exact hm Z [] _ _ H rel _ em _ fun M' u H' e r' rv => q u H' (ext_new e) (given_up r' rv hf)
    · rename_i s' em
      cases hf
      exact hm Z [] _ _ H rel _ em _ fun M' u H' e r' => q .non H' (ext_new e) .non
    · cases hf
end
/-- f(..) of such a def -/
def mCall (n : Nat) (f : Fun1) (a : AM) : EM := fun s => match a s with
  | none => none
  | some (xs, o1) => match dats xs with
    | none => none
    | some ds => if ds.length = n then (match f ds with
      | some d => some (.d d, o1)
      | none => none) else none
theorem sn_call {n : Nat} {f : Fun1} {E : XK} {ta : TA} {a : AM} (ha : SnA ta a) : Sn (tCall (spP n f) [] E ta) (mCall n f a) := by
  intro Z M s σ H h w o' e Q q
  unfold mCall at e
  split at e
  · cases e
  · rename_i xs o1 ea
    refine ha Z M s σ H h _ _ ea _ fun M1 vs H1 e1 h1 r1 => ?_
    split at e
    · cases e
    · rename_i ds hd
      split at e
      · rename_i hn
        split at e
        · rename_i d hf
          cases e
          show spP n f (vs ++ []) H1 Q E
          rw [List.append_nil]
          exact ⟨zz Z M1, ds, d, h1.r.zzd, dats_ok r1 hd, hn, hf, fun v H' nw r => q M1 v H' (e1.trans (Ex2.new nw)) (h1.new nw) r⟩
        · cases e
      · cases e
def mCallK (n : Nat) (f : Fun1) (ix : List Nat) (a : AM) : EM := fun s => match a s with
  | none => none
  | some (xs, o1) => match dats xs with
    | none => none
    | some ds => if (perm ix ds).length = n then (match f (perm ix ds) with
      | some d => some (.d d, o1)
      | none => none) else none
theorem perm_rp {Z : Zs} {H : Hp} {vs : List V} {ds : List D} (r : RpA Z H vs ds) : ∀ ix : List Nat, RpA Z H (perm ix vs) (perm ix ds)
  | [] => .nil
  | i :: ix => by
    unfold perm
    rw [List.filterMap_cons, List.filterMap_cons]
    cases h : ds[i]? with
    | none =>
      have h2 : vs[i]? = none := by
        rw [List.getElem?_eq_none_iff] at *
        rw [r.length]; exact h
      rw [h2]; exact perm_rp r ix
    | some x =>
      obtain ⟨u, h1, h2⟩ := r.get h
      rw [h1]
      exact .cons h2 (perm_rp r ix)
theorem sn_callK {n : Nat} {f : Fun1} {E : XK} {ix : List Nat} {ta : TA} {a : AM} (ha : SnA ta a) : Sn (tCallP (spP n f) ix E ta) (mCallK n f ix a) := by
  intro Z M s σ H h w o' e Q q
  unfold mCallK at e
  split at e
  · cases e
  · rename_i xs o1 ea
    refine ha Z M s σ H h _ _ ea _ fun M1 vs H1 e1 h1 r1 => ?_
    split at e
    · cases e
    · rename_i ds hd
      split at e
      · rename_i hn
        split at e
        · rename_i d hf
          cases e
          exact ⟨zz Z M1, perm ix ds, d, h1.r.zzd, perm_rp (dats_ok r1 hd) ix, hn, hf, fun v H' nw r => q M1 v H' (e1.trans (Ex2.new nw)) (h1.new nw) r⟩
        · cases e
      · cases e
/-! defs that may change the object that they are handed first -/
abbrev Fun2 := MO → List D → Option (D × MO)
def spF (n : Nat) (f : Fun2) : Sp := fun vs H Q _ => ∃ (Z : Zs) (F : Addr) (rest : List V) (fo : MO) (ds : List D) (d : D) (fo' : MO), vs = .ref F :: rest ∧ (∀ a, Z a → H a ≠ none) ∧ ¬ Z F ∧ Ro Z [F] H F fo ∧ RpA (zz Z [F]) H rest ds ∧ ds.length + 1 = n ∧
  f fo ds = some (d, fo') ∧ ∀ v H', (∀ a o, a ≠ F → H a = some o → H' a = some o) → Ro Z [F] H' F fo' → Rp (zz Z [F]) H' v d → Q v H'
def retF : Option Out → Option (D × MO)
  | some (.rt (.d v) (fo :: _)) => some (v, fo)
  | some (.nx ⟨_, fo :: _⟩) => some (.none, fo)
  | _ => none
def runF (N : Nat) (m : SM) : Fun2 := fun fo ds => retF (m ⟨st0 N (.m 0 :: ds.map .d), [fo]⟩)
theorem rvA_dats' {Z : Zs} {M : List Addr} {H : Hp} : ∀ {vs : List V} {ds : List D}, RpA (zz Z M) H vs ds → RvA Z M H vs (ds.map .d)
  | _, _, .nil => .nil
  | _, _, .cons h r => .cons h (rvA_dats' r)
theorem ro_dom {Z : Zs} {M : List Addr} {H : Hp} {a : Addr} {o : MO} (h : Ro Z M H a o) : H a ≠ none := by
  cases o with
  | l ds => obtain ⟨xs, q, _⟩ := h; rw [q]; exact fun z => nomatch z
  | k ps => obtain ⟨xs, q, _⟩ := h; rw [q]; exact fun z => nomatch z
theorem Ro.mono {Z Z' : Zs} {M M' : List Addr} {H : Hp} {a : Addr} {o : MO} (k : ∀ b, zz Z' M' b → zz Z M b) (h : Ro Z M H a o) : Ro Z' M' H a o := by
  have k' : ∀ (b : Addr) (u : HO), ¬ zz Z M b → H b = some u → ¬ zz Z' M' b ∧ H b = some u := fun b u z q => ⟨fun y => z (k b y), q⟩
  cases o with
  | l ds => obtain ⟨xs, q, r⟩ := h; exact ⟨xs, q, r.mono k'⟩
  | k ps => obtain ⟨xs, q, r⟩ := h; exact ⟨xs, q, r.mono k'⟩
theorem Rp.less {Z Z' : Zs} {H : Hp} {v : V} {d : D} (k : ∀ b, Z' b → Z b) (h : Rp Z H v d) : Rp Z' H v d := h.mono fun b u z q => ⟨fun y => z (k b y), q⟩
theorem RpA.less {Z Z' : Zs} {H : Hp} {v : List V} {d : List D} (k : ∀ b, Z' b → Z b) (h : RpA Z H v d) : RpA Z' H v d := h.mono fun b u z q => ⟨fun y => z (k b y), q⟩
section
variable {P : Program} {w : World} {K : PySem.W.Frag} {mg : Str → Option Value} {base : Heap} {x qual : Str} {params : Arguments} {body : List Stmt} {scope : Scope} {dvs : List V} {kws : List (Str × V)} {f : Addr} {fd : FuncData}
theorem def_feed {N ps : List Str} {k : Nat} {t : TS} {m : SM} (F : FunD K x qual params body scope dvs kws f fd) (sc : FnScope N ps scope)
    (reading : ∀ (cdv : Value) (A : Around) (outer : List Env) (s : Shared) (H : Hp) (E : XK), A.guards = some [] → Room k (A.deeper (envOfC qual scope s.heap.objs.size f cdv)) → PSs (cxOf CX0 P w K mg base N qual scope f cdv A outer s H E) body t)
    (hm : SnS t m) : FnG P w K mg base CX0 (k + 1) f fd ps (spF ps.length (runF N.length m)) := by
  refine fnG_ok F sc (fun vs H Q E h => ?_) (fun cdv A outer s H vs Q E hg hr h => ⟨t, reading cdv A outer s H E hg hr, ?_⟩)
  · obtain ⟨Z, F', rest, fo, ds, d, fo', rfl, _, _, _, r, hl, _⟩ := h
    rw [List.length_cons, r.length, hl]
  · obtain ⟨Z, F', rest, fo, ds, d, fo', rfl, hz, nz, ro, r, hl, hf, q⟩ := h
    unfold runF retF at hf
    have rob : Rob Z [F'] [fo] H := ⟨by simp, hz, by simpa using nz, rfl, fun k a x e1 e2 => by
      cases k with
      | zero => simp at e1 e2; subst e1; subst e2; exact ro
      | succ k => simp at e1⟩
    have rv0 : RvA Z [F'] H (.ref F' :: rest) (.m 0 :: ds.map .d) := .cons ⟨F', rfl, rfl⟩ (rvA_dats' r)
    have rel := st0_rel (N := N) rob rv0
    have fin : ∀ {M' : List Addr} {H' : Hp} {o' : List MO} {fo2 : MO} {l : List MO}, Ext [F'] H M' H' → Rob Z M' o' H' → o' = fo2 :: l → (∀ a o, a ≠ F' → H a = some o → H' a = some o) ∧ Ro Z [F'] H' F' fo2 ∧ ∀ b, zz Z [F'] b → zz Z M' b := by
      intro M' H' o' fo2 l e rb eo
      obtain ⟨⟨y, hy⟩, kp, dm⟩ := e
      have k1 : ∀ b, zz Z [F'] b → zz Z M' b := fun b z => z.elim .inl fun z => .inr (by rw [hy]; exact List.mem_append_left _ z)
      refine ⟨fun a o ne e => (kp a o (by simpa using ne) e).2, Ro.mono k1 (rb.ob 0 F' fo2 (by rw [hy]; rfl) (by rw [eo]; rfl)), k1⟩
    split at hf
    · rename_i v fo2 l em
      cases hf
      refine hm Z [F'] _ _ H rel _ em _ fun M' u H' e r' rv => ?_
      obtain ⟨a1, a2, a3⟩ := fin e r' rfl
      exact q u H' a1 a2 (Rp.less a3 rv)
    · rename_i s2 fo2 l em
      cases hf
      refine hm Z [F'] _ _ H rel _ em _ fun M' u H' e r' => ?_
      obtain ⟨a1, a2, a3⟩ := fin e r'.r rfl
      exact q .non H' a1 a2 .non
    · cases hf
end
/-- f(feed, ..) -/
def mCallF (n : Nat) (f : Fun2) (a : AM) : EM := fun s => match a s with
  | some (.m k :: xs, o1) => (match o1[k]?, dats xs with
    | some fo, some ds => if ds.length + 1 = n then (match f fo ds with
      | some (d, fo') => some (.d d, o1.set k fo')
      | none => none) else none
    | _, _ => none)
  | _ => none
theorem sn_callF {n : Nat} {f : Fun2} {E : XK} {ta : TA} {a : AM} (ha : SnA ta a) : Sn (tCall (spF n f) [] E ta) (mCallF n f a) := by
  intro Z M s σ H h w o' e Q q
  unfold mCallF at e
  split at e
  · rename_i k xs o1 ea
    refine ha Z M s σ H h _ _ ea _ fun M1 vs H1 e1 h1 r1 => ?_
    split at e
    · rename_i fo ds hk hd
      split at e
      · rename_i hn
        split at e
        · rename_i d fo' hf
          cases e
          cases r1 with
          | cons hv ht =>
            obtain ⟨F, hF, rfl⟩ := hv
            have FM : F ∈ M1 := List.mem_of_getElem? hF
            show spF n f (_ ++ []) H1 Q E
            rw [List.append_nil]
            -- all that is hidden, but the object itself
            have eq1 : ∀ b, zz (fun a => Z a ∨ (a ∈ M1 ∧ a ≠ F)) [F] b → zz Z M1 b := fun b z => by
              rcases z with (z | z) | z
              · exact .inl z
              · exact .inr z.1
              · simp only [List.mem_singleton] at z; subst z; exact .inr FM
            have eq2 : ∀ b, zz Z M1 b → zz (fun a => Z a ∨ (a ∈ M1 ∧ a ≠ F)) [F] b := fun b z => by
              rcases z with z | z
              · exact .inl (.inl z)
              · by_cases hb : b = F
                · exact .inr (by simp [hb])
                · exact .inl (.inr ⟨z, hb⟩)
            refine ⟨fun a => Z a ∨ (a ∈ M1 ∧ a ≠ F), F, _, fo, ds, d, fo', rfl, fun b z => h1.r.zzd b (z.elim .inl fun z => .inr z.1), ?_, Ro.mono eq1 (h1.r.ob k F fo hF hk), RpA.less eq1 (dats_ok ht hd), hn, hf, fun v H' kp ro rv => ?_⟩
            · rintro (z | z)
              · exact h1.r.nz F FM z
              · exact z.2 rfl
            have dom : ∀ b, H1 b ≠ none → H' b ≠ none := fun b hb => by
              by_cases e : b = F
              · subst e; exact ro_dom ro
              · cases eb : H1 b with
                | none => exact absurd eb hb
                | some o => rw [kp b o e eb]; exact fun z => nomatch z
            have ex : Ext M1 H1 M1 H' := ⟨⟨[], by simp⟩, fun b o hb e => ⟨hb, kp b o (fun z => hb (z ▸ FM)) e⟩, dom⟩
            have ex2 : Ex2 M1 H1 M1 H' := ⟨ex, rfl⟩
            have rob2 : Rob Z M1 (o1.set k fo') H' := by
              refine ⟨h1.r.nd, fun b hb => dom b (h1.r.zs b hb), h1.r.nz, ?_, fun j b y h2 h3 => ?_⟩
              · rw [List.length_set]; exact h1.r.len
              · by_cases hj : j = k
                · subst hj
                  rw [hF] at h2
                  cases h2
                  have hl : j < o1.length := (List.getElem?_eq_some_iff.mp hk).1
                  rw [List.getElem?_set_self hl] at h3
                  cases h3
                  exact Ro.mono eq2 ro
                · rw [List.getElem?_set_ne (Ne.symm hj)] at h3
                  have nb : b ≠ F := fun z => hj (nodup_get h1.r.nd h2 (z ▸ hF))
                  exact (h1.r.ob j b y h2 h3).ext ex fun o z => kp b o nb z
            exact q M1 v H' (e1.trans ex2) (h1.ext_on (o := o1.set k fo') ex rob2) (Rp.less eq2 rv)
        · cases e
      · cases e
    · cases e
  · cases e
end AP

/-! The law's feed and the law itself. -/
namespace AP
open PySem PySem.Spec PyProof.Rows L2 RZ
abbrev kC : Key := .inr (Str.ofString "cells")
abbrev kN : Key := .inr (Str.ofString "next")
abbrev kL : Key := .inr (Str.ofString "left")
abbrev kW : Key := .inr (Str.ofString "drawn")
def rIntA : List V → Hp → VK → Prop := fun xs H Q => (∃ i, xs = [.int i] ∧ Q (.int i) H) ∨ ∃ k, xs = [.bl k] ∧ Q (.int (if k then 1 else 0)) H
def tFeed (K : PySem.W.Frag) : TS := tRet (tDisp [(tC (.str (Str.ofString "cells")), tLc (iList K (tSl (rSlL K) (tVar 0) tNoPart (tPart (tC (.int 63))))) (gName 1) tYes (tCB rIntA (tCons (tVar 1) tNil)) [1]),
  (tC (.str (Str.ofString "next")), tC (.int 0)), (tC (.str (Str.ofString "left")), tC (.int 0)), (tC (.str (Str.ofString "drawn")), tC (.int 0))])
def feedV (c : Addr) : List (Key × V) := [(kC, .ref c), (kN, .int 0), (kL, .int 0), (kW, .int 0)]
/-- what _law_feed promises -/
def spFeed (K : PySem.W.Frag) : Sp := fun vs H Q _ => ∃ (a : Addr) (ns : List Int), vs = [.ref a] ∧ SqL K H a (ns.map V.int) ∧ ns.length ≤ 63 ∧
  ∀ p c H', H p = none → H c = none → c ≠ p → New H H' → H' p = some (.dK (feedV c)) → H' c = some (.lst (ns.map V.int)) → Q (.ref p) H'
theorem merge_feed (c : Addr) : mergeK [] (feedV c) = feedV c := by
  have a1 : ¬ kC = kN := by decide +kernel
  have a2 : ¬ kC = kL := by decide +kernel
  have a3 : ¬ kN = kL := by decide +kernel
  have a4 : ¬ kC = kW := by decide +kernel
  have a5 : ¬ kN = kW := by decide +kernel
  have a6 : ¬ kL = kW := by decide +kernel
  unfold mergeK feedV
  simp only [List.foldl_cons, List.foldl_nil]
  have e1 : putK [] kC (V.ref c) = [(kC, V.ref c)] := rfl
  have e2 : putK [(kC, V.ref c)] kN (V.int 0) = [(kC, V.ref c), (kN, V.int 0)] := putK_new _ (by rw [valV_neg a1]; rfl)
  have e3 : putK [(kC, V.ref c), (kN, V.int 0)] kL (V.int 0) = [(kC, V.ref c), (kN, V.int 0), (kL, V.int 0)] := putK_new _ (by rw [valV_neg a2, valV_neg a3]; rfl)
  have e4 : putK [(kC, V.ref c), (kN, V.int 0), (kL, V.int 0)] kW (V.int 0) = [(kC, V.ref c), (kN, V.int 0), (kL, V.int 0), (kW, V.int 0)] := putK_new _ (by rw [valV_neg a4, valV_neg a5, valV_neg a6]; rfl)
  rw [e1, e2, e3, e4]
theorem feed_reads {K : PySem.W.Frag} {vs : List V} {H : Hp} {Q : VK} {E : XK} (h : spFeed K vs H Q E) : tFeed K { nx := fun _ G => Q .non G, rt := Q } (L2.start [Str.ofString "_law_script", Str.ofString "_law_cell"] vs) H := by
  obtain ⟨a, ns, rfl, hS, hl, q⟩ := h
  intro p hp
  have n1 : New H (upd H p (.dK [])) := New.upd hp
  have seqN : ∀ {H1 H2 : Hp} {b : Addr} {xs : List V}, New H1 H2 → SqL K H1 b xs → SqL K H2 b xs := fun n s => by
    rcases s with (s | ⟨o, s⟩) | s
    · exact .inl (.inl (n _ _ s))
    · exact .inl (.inr ⟨o, n _ _ s⟩)
    · exact .inr s
  have s1 := seqN n1 hS
  -- the cells
  refine ⟨.ref a, rfl, (63 : Int), rfl, a, ns.map V.int, rfl, s1, fun b hb => ?_⟩
  have ecut : cutV (ns.map V.int) none (some 63) = ns.map V.int := by
    unfold cutV
    rw [HT.sIx_none, List.drop_zero, show HT.sIx (ns.map V.int).length (ns.map V.int).length (some (63 : Int)) = min 63 (ns.map V.int).length from HT.sIx_nat _ _ 63]
    rw [Nat.sub_zero, List.take_of_length_le]
    rw [List.length_map]; omega
  rw [ecut]
  have n2 : New (upd H p (.dK [])) (upd (upd H p (.dK [])) b (.lst (ns.map V.int))) := New.upd hb
  refine ⟨b, rfl, ⟨_, SqL.of upd_same⟩, fun D hD => ?_⟩
  have npD : p ≠ D := fun e => by rw [e] at n2; have := n2 D _ (show upd H D (.dK []) D = _ from upd_same); subst e; rw [this] at hD; cases hD
  have nbD : b ≠ D := fun e => by subst e; rw [upd_same] at hD; cases hD
  have npb : p ≠ b := fun e => by subst e; rw [upd_same] at hb; cases hb
  refine lc_list (xs := ns.map V.int) (fun i H2 => New H H2 ∧ H2 p = some (.dK []) ∧ H2 b = some (.lst (ns.map V.int)) ∧ H2 D = some (.lst ((ns.take i).map V.int))) ⟨?_, ?_, ?_, upd_same⟩ (fun i H2 _ z => SqL.of z.2.2.1) (fun i x H2 hx z => ?_) (fun H2 z => ?_)
  · exact (n1.trans n2).trans (New.upd hD)
  · rw [upd_ne npD, upd_ne npb, upd_same]
  · rw [upd_ne nbD, upd_same]
  · obtain ⟨z1, z2, z3, z4⟩ := z
    have hi : i < ns.length := by
      have := (List.getElem?_eq_some_iff.mp hx).1
      simpa using this
    have ex : x = .int ns[i] := by
      rw [List.getElem?_map, List.getElem?_eq_getElem hi] at hx
      exact (Option.some.inj hx).symm
    subst ex
    refine ⟨rfl, ?_⟩
    refine ⟨.int ns[i], rfl, .inl ⟨_, rfl, _, z4, ?_, ?_, ?_, ?_, ?_⟩⟩
    · rw [List.length_map, List.length_take]; exact Nat.lt_of_le_of_lt (Nat.min_le_right _ _) (Nat.lt_of_lt_of_le (by omega : ns.length < 100000) (small_line (Nat.le_refl _)))
    · intro c o e
      rw [upd_ne (fun e2 => by
        subst e2
        have h0 : H c = none := by
          cases h : H c with
          | none => rfl
          | some u =>
            have := (n1.trans n2) c u h
            rw [this] at hD; cases hD
        rw [h0] at e; cases e)]
      exact z1 c o e
    · rw [upd_ne npD]; exact z2
    · rw [upd_ne nbD]; exact z3
    · rw [upd_same, ← List.map_singleton, ← List.map_append]
      congr 3
      rw [List.take_add_one, List.getElem?_eq_getElem hi]
      rfl
  · obtain ⟨z1, z2, z3, z4⟩ := z
    rw [List.length_map, List.take_length] at z4
    have h0 : H D = none := by
      cases h : H D with
      | none => rfl
      | some u =>
        have := (n1.trans n2) D u h
        rw [this] at hD; cases hD
    refine ⟨z2, feedV D, rfl, by show 4 ≤ 15; omega, ?_⟩
    rw [merge_feed]
    refine q p D _ hp h0 npD.symm ?_ upd_same ?_
    · intro c o e
      rw [upd_ne (fun e2 => by subst e2; rw [hp] at e; cases e)]
      exact z1 c o e
    · rw [upd_ne npD.symm]; exact z4
/-- the feed as it begins -/
def feed0 (ns : List Int) : MO := .k [(kC, .list (ns.map PyData.int)), (kN, .int 0), (kL, .int 0), (kW, .int 0)]
/-- the law: first its feed, then the rest -/
def tLaw (K : PySem.W.Frag) (t : TS) : TS := tSeq (tAsg (tCall (spFeed K) [] E0 (tCons (tVar 0) tNil)) (gName 1)) t
def spLaw (K : PySem.W.Frag) : Sp := fun vs H Q _ => ∃ (a : Addr) (ns : List Int), vs = [.ref a] ∧ SqL K H a (ns.map V.int) ∧ ns.length ≤ 63 ∧ ∀ H', Q (.bl true) H'
def lawOk (N : Nat) (m : SM) : Prop := ∀ ns : List Int, ns.length ≤ 63 → ∃ o, m ⟨none :: some (.m 0) :: List.replicate (N - 2) none, [feed0 ns]⟩ = some (.rt (.d (.bool true)) o)
theorem law_reads {K : PySem.W.Frag} {N : List Str} {t : TS} {m : SM} (hN : 2 ≤ N.length) (hm : SnS t m) (ok : lawOk N.length m) {vs : List V} {H : Hp} {Q : VK} {E : XK} (h : spLaw K vs H Q E) : tLaw K t { nx := fun _ G => Q .non G, rt := Q } (L2.start N vs) H := by
  obtain ⟨a, ns, rfl, hS, hl, q⟩ := h
  obtain ⟨o, ho⟩ := ok ns hl
  refine ⟨.ref a, rfl, ?_⟩
  refine ⟨a, ns, rfl, hS, hl, fun p c H' hp hc ncp nw h1 h2 => ?_⟩
  show t _ _ _
  refine hm (fun _ => False) [p] ⟨none :: some (.m 0) :: List.replicate (N.length - 2) none, [feed0 ns]⟩ _ H' ⟨⟨by simp, fun _ z => z.elim, by simp, rfl, fun k b x e1 e2 => ?_⟩, fun i sv e => ?_, ?_⟩ _ ho _ ?_
  · cases k with
    | succ k => simp at e1
    | zero =>
      simp at e1 e2
      subst e1; subst e2
      refine ⟨feedV c, h1, ?_⟩
      have nz : ¬ zz (fun _ => False) [p] c := fun z => z.elim id fun z => ncp (by simpa using z)
      exact .cons (.lst nz h2 (rpA_ints ns)) (.cons (.int 0) (.cons (.int 0) (.cons (.int 0) .nil)))
  · cases i with
    | zero => simp at e
    | succ i =>
      cases i with
      | zero =>
        simp at e
        subst e
        refine ⟨.ref p, ?_, p, rfl, rfl⟩
        have hl2 : 1 < (L2.start N [V.ref a]).length := by simp [L2.start]; omega
        rw [List.getElem?_set_self hl2]
      | succ i =>
        simp [List.getElem?_replicate] at e
  · simp [L2.start]; omega
  · intro M' v H2 e r rv
    have rv2 : Rp _ H2 v (.bool true) := rv
    cases rv2
    exact q H2
section
variable {P : Program} {w : World} {K : PySem.W.Frag} {mg : Str → Option Value} {base : Heap} {x qual : Str} {params : Arguments} {body : List Stmt} {scope : Scope} {dvs : List V} {kws : List (Str × V)} {f : Addr} {fd : FuncData}
theorem def_feed0 {ps : List Str} {k : Nat} (F : FunD K x qual params body scope dvs kws f fd) (sc : FnScope [Str.ofString "_law_script", Str.ofString "_law_cell"] ps scope) (h1 : ps.length = 1)
    (reading : ∀ (cdv : Value) (A : Around) (outer : List Env) (s : Shared) (H : Hp) (E : XK), A.guards = some [] → Room k (A.deeper (envOfC qual scope s.heap.objs.size f cdv)) → PSs (cxOf CX0 P w K mg base [Str.ofString "_law_script", Str.ofString "_law_cell"] qual scope f cdv A outer s H E) body (tFeed K)) :
    FnG P w K mg base CX0 (k + 1) f fd ps (spFeed K) :=
  fnG_ok F sc (fun vs H Q E h => by obtain ⟨a, ns, rfl, _⟩ := h; exact h1.symm) fun cdv A outer s H vs Q E hg hr h => ⟨tFeed K, reading cdv A outer s H E hg hr, feed_reads h⟩
theorem def_law {N ps : List Str} {k : Nat} {t : TS} {m : SM} (F : FunD K x qual params body scope dvs kws f fd) (sc : FnScope N ps scope) (h1 : ps.length = 1) (hN : 2 ≤ N.length)
    (reading : ∀ (cdv : Value) (A : Around) (outer : List Env) (s : Shared) (H : Hp) (E : XK), A.guards = some [] → Room k (A.deeper (envOfC qual scope s.heap.objs.size f cdv)) → PSs (cxOf CX0 P w K mg base N qual scope f cdv A outer s H E) body (tLaw K t))
    (hm : SnS t m) (ok : lawOk N.length m) : FnG P w K mg base CX0 (k + 1) f fd ps (spLaw K) :=
  fnG_ok F sc (fun vs H Q E h => by obtain ⟨a, ns, rfl, _⟩ := h; exact h1.symm) fun cdv A outer s H vs Q E hg hr h => ⟨tLaw K t, reading cdv A outer s H E hg hr, law_reads hN hm ok h⟩
end
/-! the end of a law's row -/
theorem end_call {P : Program} {w : World} {K : PySem.W.Frag} {mg mb : Str → Option Value} {k : Nat} {fa a : Addr} {fd : FuncData} {x : Str} {s₁ : Shared} {vs : List Value} {ns : List Int}
    (KX : K.In s₁.heap) (hns : s₁.heap.Ns mainGlobals mg) (hb : s₁.heap.Ns builtinsNs mb) (hbb : ∀ x : Str, x ≠ "__name__" → mb x = bootBuiltins x) (hlim : s₁.heap.NoLimit) (hg : s₁.gens = #[])
    (ha : s₁.heap.get? a = some { cls := .type "list", data := .seq vs.toArray }) (hi : IntsAre vs ns) (hl : ns.length ≤ 63) (hr : Room k callerA)
    (F : ∀ base : Heap, K.In base → base.Ns mainGlobals mg → FnG P w K mg base CX0 k fa fd [x] (spLaw K)) (hbind : ∀ (s : Shared) (u : Value), BindsTo s fd ⟨[u], []⟩ [(x, u)]) :
    codeAny (model P w) callerA (.call (.ref fa) ⟨[.ref a], []⟩) (fun r s' => r = .ok (.ret (.bool true)) ∧ OldK s₁.heap s'.heap ∧ s'.os = s₁.os ∧ AllBare s'.gens) s₁ := by
  have rv := vals_ints hi
  have lv := hi.length
  have hz : ns.length ≤ sizeLine := Nat.le_trans hl (small_line (by omega))
  -- from a heap in which the script alone may be known
  have core : ∀ H : Hp, Only H → SqL K H a (ns.map V.int) → HOk P w H s₁.heap → (∀ b, H b ≠ none → b = a) → (H a ≠ none → K.lookup a = none) →
      codeAny (model P w) callerA (.call (.ref fa) ⟨[.ref a], []⟩) (fun r s' => r = .ok (.ret (.bool true)) ∧ OldK s₁.heap s'.heap ∧ s'.os = s₁.os ∧ AllBare s'.gens) s₁ := by
    intro H only seen ok onlyA notK
    have isL : ∀ b, H b ≠ none → ∃ o, s₁.heap.get? b = some o ∧ o.data = .seq vs.toArray := fun b hb => by
      rw [onlyA b hb]; exact ⟨_, ha, rfl⟩
    have base_of : ∀ {b : Addr} {o : Obj}, s₁.heap.get? b = some o → H b = none → (hidT s₁.heap H).get? b = some o := fun e n => hidT_get e n
    have notSeq : ∀ {b : Addr} {o : Obj}, s₁.heap.get? b = some o → (∀ vs n, o.data ≠ .seq vs n) → H b = none := fun {b o} e d => by
      cases q : H b with
      | none => rfl
      | some u =>
        obtain ⟨o2, e2, d2⟩ := isL b (by rw [q]; exact fun z => nomatch z)
        rw [e] at e2; cases e2
        exact absurd d2 (d _ _)
    have nsK : ∀ {b : Addr} {m : Str → Option Value}, s₁.heap.Ns b m → (hidT s₁.heap H).Ns b m := by
      rintro b m ⟨o, es, ep, e, d, r⟩
      exact ⟨o, es, ep, base_of e (notSeq e fun vs n z => by rw [d] at z; cases z), d, r⟩
    have kin : K.In (hidT s₁.heap H) := fun b o e => base_of (KX b o e) (by
      cases q : H b with
      | none => rfl
      | some u =>
        have e1 : b = a := onlyA b (by rw [q]; exact fun z => nomatch z)
        subst e1
        rw [notK (by rw [q]; exact fun z => nomatch z)] at e
        cases e)
    obtain ⟨mc, l1, l2⟩ := hlim
    have e0 : Env0 P w K mg (hidT s₁.heap H) callerA [] s₁ H :=
      { frames := rfl, mod := ⟨kin, nsK hns, ⟨mb, nsK hb, hbb⟩, ⟨mc, nsK l1, l2⟩⟩, bs := fun b o e => of_hidT e, bsz := Nat.le_of_eq (hidT_size _ _), funs := trivial, frf := fun b hb => absurd (show b ∈ ([] : List Addr) from hb) (by simp), hok := ok, bare := .of_eq hg }
    refine codeAny_mono ((F _ kin (nsK hns)).goes callerA [] s₁ H ⟨[.ref a], []⟩ [.ref a] [.ref a] (fun v _ => v = .bl true) (fun _ _ _ => False) rfl hr e0 (hbind s₁ (.ref a)) (.cons rfl .nil) ⟨a, ns, rfl, seen, hl, fun _ => rfl⟩) fun r s' h => ?_
    cases r with
    | error e => exact (show False from h).elim
    | ok fl =>
      cases fl with
      | next => exact (show False from h).elim
      | brk => exact (show False from h).elim
      | cont => exact (show False from h).elim
      | ret u =>
        obtain ⟨v, H2, os, bare, un, ok2, rl, q⟩ := h
        have q' : v = .bl true := q
        subst q'
        cases rl
        refine ⟨rfl, OldK.of_keep fun b o e => ?_, os, bare⟩
        cases q2 : H b with
        | none => exact un.keep b o e q2 (fun z => absurd (show b ∈ ([] : List Addr) from z) (by simp)) (by simp)
        | some u =>
          rcases only b with z | ⟨ob, xs, z⟩
          · rw [q2] at z; cases z
          · obtain ⟨e1, _⟩ := ok b _ z
            obtain ⟨e2, _⟩ := ok2 b _ (un.frzs b ob _ z)
            rw [e] at e1; cases e1
            exact e2
  cases hk : K.lookup a with
  | some o =>
    have e := KX a o hk
    rw [ha] at e
    cases e
    exact core (fun _ => none) (fun _ => .inl rfl) (.inr ⟨_, vs.toArray, _, hk, rfl, rfl, rfl, by rw [List.size_toArray, lv]; exact hz, by simpa using rv⟩) (fun b u z => nomatch z) (fun b z => absurd rfl z) fun z => absurd rfl z
  | none =>
    have at_ : ∀ {b : Addr} {o : HO}, (if b = a then some (HO.frz { cls := .type "list", data := .seq vs.toArray } (.lst (ns.map V.int))) else none) = some o → b = a ∧ o = .frz { cls := .type "list", data := .seq vs.toArray } (.lst (ns.map V.int)) := by
      intro b o e
      by_cases hb : b = a
      · rw [if_pos hb] at e; exact ⟨hb, (Option.some.inj e).symm⟩
      · rw [if_neg hb] at e; cases e
    refine core (fun b => if b = a then some (.frz { cls := .type "list", data := .seq vs.toArray } (.lst (ns.map V.int))) else none) (fun b => ?_) (.inl (.inr ⟨_, if_pos rfl⟩)) (fun b u z => ?_) (fun b z => ?_) fun _ => hk
    · by_cases hb : b = a
      · exact .inr ⟨_, _, if_pos hb⟩
      · exact .inl (if_neg hb)
    · obtain ⟨rfl, rfl⟩ := at_ z
      exact ⟨ha, by rw [List.length_map]; exact hz, vs, _, rv, ha⟩
    · by_cases hb : b = a
      · exact hb
      · exact absurd (if_neg hb) z
theorem end_law {l : PySem.W.OpenLaw} {k : Nat} {q : Program} {loose : List Str} {XP : (Str → Option Value) → Heap → Prop} {YP : World → Heap → Prop} {d : DefRec} {x : Str}
    (hn : l.most = some 63) (hdf : d.params.defaults = []) (hr : Room k callerA)
    (F : ∀ (w : World) (mg : Str → Option Value) (fa : Addr) (h : Heap), YP w h → h.Ns mainGlobals mg → mg d.name = some (.ref fa) →
      ∃ (K : PySem.W.Frag) (fd : FuncData), K.In h ∧ (∀ (s : Shared) (u : Value), BindsTo s fd ⟨[u], []⟩ [(x, u)]) ∧ ∀ base : Heap, K.In base → base.Ns mainGlobals mg → FnG l.prog w K mg base CX0 k fa fd [x] (spLaw K)) :
    PySem.W.WalkO q loose XP YP l.row.toRowW d [] (fun f vs => PySem.call f vs) := by
  refine Att.attach_call hn hdf fun w s₀ s₁ mg mb fa o pm cd doc a vs ns G Y ho hd hcd hmg hobj hints hlen hg => ?_
  obtain ⟨K, fd, KX, hb, hF⟩ := F w mg fa _ Y G.T.g hmg
  exact end_call KX G.T.g G.T.b G.T.builtins G.T.nolimit hg hobj hints hlen hr hF hb
end AP

/-! More rules: repr, dicts by comprehension, pairs of a value and a new object, some int operators. -/
namespace AP
open PySem PySem.Spec PyProof.Rows L2 RZ
/-! repr -/
def gRepr : List D → Option D
  | [d] => if (noD d && PyData.showable d && !d.hasDict && decide (d.shown.length ≤ 100000) && decide (d.depth ≤ 60)) = true then some (.str d.shown) else none
  | _ => none
theorem rc_repr {K : PySem.W.Frag} : RCD (rRepr K) gRepr := by
  intro Z H hz vs ds d r e Q q
  unfold gRepr at e
  split at e
  · rename_i x
    split at e
    · rename_i h
      cases e
      simp only [Bool.and_eq_true, decide_eq_true_eq, Bool.not_eq_true'] at h
      obtain ⟨⟨⟨⟨h0, h1⟩, h2⟩, h3⟩, h4⟩ := h
      cases r with
      | cons hv t =>
        cases t
        exact ⟨_, x, rfl, hv.dp h0, h1, h2, small_line h3, h4, q _ H (New.refl H) (.str _)⟩
    · cases e
  · cases e
/-! ints -/
def gMul : D → D → Option D := g2I (fun i j => (decide (-(2 ^ 64) < i) && decide (i < 2 ^ 64)) || (decide (-(2 ^ 64) < j) && decide (j < 2 ^ 64))) fun i j => .int (i * j)
theorem r2_mul : R2D (rI CMul fun i j => .int (i * j)) gMul := r2_I fun i j h => by
  simp only [Bool.or_eq_true, Bool.and_eq_true, decide_eq_true_eq] at h
  exact h
def gDiv : D → D → Option D := g2I (fun _ j => decide (0 < j) && decide (j < 1073741824)) fun i j => .int (i / j)
theorem r2_div : R2D (rI CDiv fun i j => .int (i / j)) gDiv := r2_I fun i j h => by
  simp only [Bool.and_eq_true, decide_eq_true_eq] at h
  exact h
def gMod : D → D → Option D := g2I (fun _ j => decide (0 < j)) fun i j => .int (i % j)
theorem r2_mod : R2D (rI (fun _ j => 0 < j) fun i j => .int (i % j)) gMod := r2_I fun i j h => by
  simpa using h
def gPow : D → D → Option D := g2I (fun i j => decide (0 ≤ j) && decide (j ≤ 1000000) && decide (i.natAbs < 2 ^ 64)) fun i j => .int (i ^ j.toNat)
theorem r2_pow : R2D (rI CPow fun i j => .int (i ^ j.toNat)) gPow := r2_I fun i j h => by
  simp only [Bool.and_eq_true, decide_eq_true_eq] at h
  exact ⟨h.1.1, h.1.2, h.2⟩
def gNeg : D → Option D
  | .int i => some (.int (-i))
  | _ => none
theorem r1_neg : R1D (rU fun i => .int (-i)) gNeg := by
  intro Z H hz v1 d1 d r1 e Q q
  unfold gNeg at e
  split at e
  · cases e
    cases r1
    exact ⟨_, rfl, q _ H (New.refl H) (.int _)⟩
  · cases e
/-! x, y = a value, a new object -/
def mParO (i j : Nat) (a : EM) (m : NM) : SM := fun s => match a s with
  | none => none
  | some (x, o1) => match m (s.on o1) with
    | none => none
    | some (r, o2) => some (.nx ⟨(s.σ.set i (some x)).set j (some (.m o2.length)), o2 ++ [r]⟩)
theorem ss_parO {i j : Nat} {ta tb : TE} {a : EM} {m : NM} (ha : Sn ta a) (hm : SnN tb m) : SnS (tPar i j (tCons ta (tCons tb tNil))) (mParO i j a m) := by
  intro Z M s σ H h out e E f
  unfold mParO at e
  split at e
  · cases e
  · rename_i x o1 ea
    refine ha Z M s σ H h _ _ ea _ fun M1 v1 H1 ⟨e1, m1⟩ h1 r1 => ?_
    split at e
    · cases e
    · rename_i r o2 er
      cases e
      refine hm Z M1 (s.on o1) σ H1 h1 _ _ er _ fun M2 p H2 hl e2 h2 => ?_
      refine ⟨v1, .ref p, rfl, ?_⟩
      have hlen : o2.length = M2.length := by
        have z := h2.r.len
        simp at z
        exact z
      have rx : Rv Z (M2 ++ [p]) H2 v1 x := e2.rv r1
      have rp : Rv Z (M2 ++ [p]) H2 (.ref p) (.m o2.length) := ⟨p, by rw [hlen, List.getElem?_append_right (Nat.le_refl _)]; simp, rfl⟩
      exact f (M2 ++ [p]) _ H2 (e1.trans e2) ((h2.put (i := i) rx).put (i := j) rp)
/-! both new -/
def mParOO (i j : Nat) (m n : NM) : SM := fun s => match m s with
  | none => none
  | some (r, o1) => match n (s.on (o1 ++ [r])) with
    | none => none
    | some (r2, o2) => some (.nx ⟨(s.σ.set i (some (.m o1.length))).set j (some (.m o2.length)), o2 ++ [r2]⟩)
theorem ss_parOO {i j : Nat} {ta tb : TE} {m n : NM} (ha : SnN ta m) (hm : SnN tb n) : SnS (tPar i j (tCons ta (tCons tb tNil))) (mParOO i j m n) := by
  intro Z M s σ H h out e E f
  unfold mParOO at e
  split at e
  · cases e
  · rename_i r o1 ea
    refine ha Z M s σ H h _ _ ea _ fun M1 p1 H1 hl1 e1 h1 => ?_
    split at e
    · cases e
    · rename_i r2 o2 er
      cases e
      refine hm Z (M1 ++ [p1]) (s.on (o1 ++ [r])) σ H1 h1 _ _ er _ fun M2 p H2 hl e2 h2 => ?_
      refine ⟨.ref p1, .ref p, rfl, ?_⟩
      have hlen1 : o1.length = M1.length := by
        have z := h1.r.len
        simp at z
        exact z
      have hlen : o2.length = M2.length := by
        have z := h2.r.len
        simp at z
        exact z
      have rx0 : Rv Z (M1 ++ [p1]) H1 (.ref p1) (.m o1.length) := ⟨p1, by rw [hlen1, List.getElem?_append_right (Nat.le_refl _)]; simp, rfl⟩
      have rx : Rv Z (M2 ++ [p]) H2 (.ref p1) (.m o1.length) := e2.rv rx0
      have rp : Rv Z (M2 ++ [p]) H2 (.ref p) (.m o2.length) := ⟨p, by rw [hlen, List.getElem?_append_right (Nat.le_refl _)]; simp, rfl⟩
      exact f (M2 ++ [p]) _ H2 (e1.trans e2) ((h2.put (i := i) rx).put (i := j) rp)
/-! a suite that runs through -/
theorem ss_thru {t u : TS} {a b : SM} (ha : SnS t a) (hb : SnS u b) : SnS (tThru t u) (mSeq a b) := ss_seq ha hb
/-! dicts by comprehension -/
section
variable {J : It} {n : Nat} {G : Hp → Prop} {Y : Nat → Hp → V → Hp → Prop}
theorem dc_itA (w : L2.Walk J n G Y) {g : TG} {tt : TT} {tk tv : TE} {us : List Nat} {τ : L2.St} {h1 : Hp} {C : Addr} {Fn : Hp → Prop} (Ti : Nat → Hp → Prop) (t0 : Ti 0 (upd h1 C (.dK []))) (tG : ∀ i h, i ≤ n → Ti i h → G h)
    (step : ∀ i x h h', i < n → Ti i h → Y i h x h' → g x (wipe τ us) h' fun τ2 h2 => wipe τ2 us = wipe τ us ∧ tt τ2 h2 fun b h3 =>
      if b = true then tk τ2 h3 fun y h4 => tv τ2 h4 fun z h5 => ∃ kvs k, y = kV k ∧ h5 C = some (.dK kvs) ∧ kvs.length < sizeLine ∧ Ti (i + 1) (upd h5 C (.dK (putK kvs k z))) else Ti (i + 1) h3) (tn : ∀ h, Ti n h → Fn h) :
    ∃ U : Nat → Nat → Hp → Prop, (∃ m, U 0 m (upd h1 C (.dK []))) ∧ ∀ i m h, U i m h →
      (J.stop i h ∧ Fn h) ∨ (J.go i h ∧ ∃ Nx : Hp → Prop, (∀ h', Nx h' → ∃ m', m' < m ∧ U (i + 1) m' h') ∧ ∀ x h', J.yld i h x h' → g x (wipe τ us) h' fun τ2 h2 => wipe τ2 us = wipe τ us ∧ tt τ2 h2 fun b h3 =>
        if b = true then tk τ2 h3 fun y h4 => tv τ2 h4 fun z h5 => ∃ kvs k, y = kV k ∧ h5 C = some (.dK kvs) ∧ kvs.length < sizeLine ∧ Nx (upd h5 C (.dK (putK kvs k z))) else Nx h3) := by
  refine ⟨fun i left h => left = n - i ∧ i ≤ n ∧ Ti i h, ⟨n, (Nat.sub_zero n).symm, Nat.zero_le _, t0⟩, ?_⟩
  rintro i left h ⟨rfl, hle, p⟩
  have gh := tG i h hle p
  rcases Nat.lt_or_ge i n with hn | hn
  · exact .inr ⟨w.goes i h hn gh, Ti (i + 1), fun h' p' => ⟨n - (i + 1), by omega, rfl, hn, p'⟩, fun x h' y => step i x h h' hn p (w.yields i h x h' hn gh y)⟩
  · obtain rfl : i = n := Nat.le_antisymm hle hn
    exact .inl ⟨w.stops h gh, tn h p⟩
end
def dcLoop (k : Nat) (g : GM) (c : TM) (ek ev : EM) (τ : List (Option SV)) : List D → List MO → Option (List MO)
  | [], o => some o
  | d :: r, o => match g (.d d) ⟨τ, o⟩ with
    | none => none
    | some s2 => match c s2 with
      | none => none
      | some (false, o3) => dcLoop k g c ek ev τ r o3
      | some (true, o3) => match ek (s2.on o3) with
        | some (.d y, o4) => (match ev (s2.on o4) with
          | some (.d x, o5) => (match toKey y, o5[k]? with
            | some key, some (.k ps) => if ps.length < 100000 ∧ (ps.map (·.1)).Nodup then dcLoop k g c ek ev τ r (o5.set k (.k (putD ps key x))) else none
            | _, _ => none)
          | _ => none)
        | _ => none
def mDc (im : IM) (g : GM) (c : TM) (ek ev : EM) (vs : List Nat) : NM := fun s => match im s with
  | none => none
  | some (items, o1) => match dcLoop o1.length g c ek ev (wipeS s.σ vs) items (o1 ++ [.k []]) with
    | none => none
    | some oF => (match oF[o1.length]? with
      | some (.k ps) => some (.k ps, oF.take o1.length)
      | _ => none)
theorem sn_dc {wi : TI} {tg : TG} {tt : TT} {tk te : TE} {vs : List Nat} {im : IM} {g : GM} {c : TM} {ek e : EM} (hi : SnI wi im) (hg : SnG tg g) (gk : GK vs tg) (hc : SnT tt c) (hk : Sn tk ek) (he : Sn te e) : SnN (tDc wi tg tt tk te vs) (mDc im g c ek e vs) := by
  intro Z M s σ H h r o' ev Q q
  unfold mDc at ev
  split at ev
  · cases ev
  · rename_i items o1 ei
    split at ev
    · cases ev
    · rename_i oF el
      split at ev
      · rename_i acc hacc
        cases ev
        refine hi Z M s σ H h items o1 ei _ fun J H1 e1 h1 src => ?_
        obtain ⟨G, Y, w, hG, hY⟩ := src
        intro Dl hD
        have k1 : o1.length = M.length := h1.r.len
        obtain ⟨n1, n2⟩ := own_new (ob := .dK []) (r := .k []) h1 hD ⟨[], rfl, .nil⟩
        have w1 := rel_wipe n1 vs
        have atD : ∀ M2 : List Addr, M2 = M ++ [Dl] → M2[o1.length]? = some Dl := fun M2 e => by
          rw [e, k1, List.getElem?_append_right (Nat.le_refl _)]; simp
        refine dc_itA w (fun i H2 => ∃ o2, Ext M H1 (M ++ [Dl]) H2 ∧ Rel Z (M ++ [Dl]) ⟨wipeS s.σ vs, o2⟩ (wipe σ vs) H2 ∧ dcLoop o1.length g c ek e (wipeS s.σ vs) (items.drop i) o2 = some oF)
          ⟨_, n2, w1, el⟩ (fun i H2 _ ⟨o2, x, _⟩ => hG _ H2 x) ?_ ?_
        · rintro i x H2 H3 hin ⟨o2, e2, h2, l2⟩ hy
          obtain ⟨nw, d, hd, rd⟩ := hY i H2 x H3 (M ++ [Dl]) e2 h2.r.zzd hin hy
          have edrop : items.drop i = d :: items.drop (i + 1) := by
            rw [List.drop_eq_getElem_cons hin]
            congr 1
            have z := List.getElem?_eq_getElem hin
            rw [hd] at z
            exact (Option.some.inj z).symm
          rw [edrop] at l2
          unfold dcLoop at l2
          split at l2
          · cases l2
          · rename_i s3 es
            refine gk.kept _ _ _ _ ?_
            refine hg Z _ _ _ H3 (h2.new nw) x (.d d) rd s3 es _ fun M4 σ4 H4 ⟨e4, m4⟩ h4 w4 => ?_
            subst m4
            rw [wipe_wipe σ vs vs fun _ z => z] at w4
            refine ⟨w4, ?_⟩
            have e24 : Ext M H1 (M ++ [Dl]) H4 := (e2.trans (Ext.new nw)).trans e4
            have back : ∀ {o5 : List MO} {H5 : Hp}, Ext (M ++ [Dl]) H4 (M ++ [Dl]) H5 → Rob Z (M ++ [Dl]) o5 H5 → Rel Z (M ++ [Dl]) ⟨wipeS s.σ vs, o5⟩ (wipe σ vs) H5 := fun {o5 H5} e5 r5 =>
              (h2.ext_on (o := o5) (((Ext.new nw).trans e4).trans e5) r5)
            split at l2
            · cases l2
            · rename_i o5 ec
              refine hc Z _ s3 σ4 H4 h4 _ _ ec _ fun M5 H5 ⟨e5, m5⟩ h5 => ?_
              subst m5
              rw [if_neg (by decide)]
              exact ⟨o5, e24.trans e5, back e5 h5.r, l2⟩
            · rename_i o5 ec
              refine hc Z _ s3 σ4 H4 h4 _ _ ec _ fun M5 H5 ⟨e5, m5⟩ h5 => ?_
              subst m5
              rw [if_pos rfl]
              split at l2
              · rename_i y6 o6 ek6
                refine hk Z _ (s3.on o5) σ4 H5 h5 _ _ ek6 _ fun M6 v6 H6 ⟨e6, m6⟩ h6 r6 => ?_
                subst m6
                split at l2
                · rename_i x7 o7 ee
                  refine he Z _ (s3.on o6) σ4 H6 h6 _ _ ee _ fun M7 v7 H7 ⟨e7, m7⟩ h7 r7 => ?_
                  subst m7
                  split at l2
                  · rename_i key ps hkey hps
                    split at l2
                    · rename_i hl
                      obtain ⟨kvs, hx, rx⟩ := h7.r.ob o1.length Dl _ (atD _ rfl) hps
                      have hv6 : v6 = kV key := key_rt (Rp.rt r6) hkey
                      subst hv6
                      have hlen : kvs.length = ps.length := by rw [rx.length]; simp [kvD]
                      obtain ⟨g1, g2⟩ := own_mut (ob := .dK (putK kvs key v7)) (r := .k (putD ps key x7)) h7 (atD _ rfl) ⟨_, rfl, rpK_put r7 rx hl.2⟩
                      exact ⟨kvs, key, rfl, hx, Nat.lt_of_lt_of_le (by rw [hlen]; exact hl.1) (small_line (Nat.le_refl _)), _, (((e24.trans e5).trans e6).trans e7).trans g2, back (((e5.trans e6).trans e7).trans g2) g1.r, l2⟩
                    · cases l2
                  · cases l2
                · cases l2
              · cases l2
        · rintro H2 ⟨o2, e2, h2, l2⟩
          rw [List.drop_length] at l2
          unfold dcLoop at l2
          cases l2
          have hl : oF.length = o1.length + 1 := by
            have z := h2.r.len
            simp at z
            rw [k1]; exact z
          have eo : oF.take o1.length ++ [.k acc] = oF := by
            have z := List.take_append_getElem (show o1.length < oF.length by omega)
            have z2 := List.getElem?_eq_getElem (show o1.length < oF.length by omega)
            rw [hacc] at z2
            rw [Option.some.inj z2, z, List.take_of_length_le (by omega)]
          refine q M Dl H2 rfl (e1.trans e2) ?_
          rw [eo]
          exact h.ext_on (o := oF) (e1.trans e2) h2.r
      · cases ev
end AP

/-! Words for the readings: any +, any <, calls of the module's defs, a dict made by a comprehension and named. -/
namespace AP
open PySem PySem.Spec PyProof.Rows L2 RZ
section
variable {X : Cx}
theorem ps_setDc {i : Nat} {y : Str} {py : Pos} {kx vx tg iter : Expr} {ifs : List Expr} {scope : Scope} {own : List (Str × Nat)} {cpos spos : Pos} {wi : TI} {g : TG} {tt : TT} {tk tv : TE}
    (hc : X.calm = true) (nd : X.N.Nodup) (hy : X.N[i]? = some y) (yl : X.env.scope.names.lookup y = some .local)
    (sw : swapsWith (.DictComp kx vx [⟨tg, iter, ifs, 0⟩] scope cpos) (some (.Name y py)) spos.line X.env = pure true) (hi : PI X tg iter wi) (ok : BlkOk X.N X.env.scope scope own)
    (hg : ∀ (s : Shared) (h : Hp) (C : Addr) (cl : List (Str × Addr)) (fp : List Addr), PG (X.blk s h scope (compEnvC scope cl C X.env) fp) tg g)
    (ht : ∀ (s : Shared) (h : Hp) (C : Addr) (cl : List (Str × Addr)) (fp : List Addr), PTs (X.blk s h scope (compEnvC scope cl C X.env) fp) ifs tt)
    (hk : ∀ (s : Shared) (h : Hp) (C : Addr) (cl : List (Str × Addr)) (fp : List Addr), PE (X.blk s h scope (compEnvC scope cl C X.env) fp) kx tk)
    (he : ∀ (s : Shared) (h : Hp) (C : Addr) (cl : List (Str × Addr)) (fp : List Addr), PE (X.blk s h scope (compEnvC scope cl C X.env) fp) vx tv)
    (hs : ∀ x, foldedSetIterable iter X.env x = pure x := by intro _; rfl) :
    PS X (.Assign [.Name y py] (.DictComp kx vx [⟨tg, iter, ifs, 0⟩] scope cpos) spos) (tAsg (tDc wi g tt tk tv (own.map (·.2))) (gName i)) := by
  refine ⟨fun pins s σ H D I h => ?_⟩
  rw [exec_Assign_Name_used _ _ _ _ sw]
  refine wpAny_bind (wpAny_standAt (wpAny_bind ?_))
  show wpAny _ X.A (do let _ ← comprehension (.DictComp kx vx [⟨tg, iter, ifs, 0⟩] scope cpos) scope X.env (firstIterPos [⟨tg, iter, ifs, 0⟩] cpos) newDict false (eval iter X.env) (some (assign (.Name y py) X.env))) _ _ s
  have h' : tDc wi g tt tk tv (own.map (·.2)) σ H (fun x H1 => gName i x σ H1 D.nx) := h
  refine wpAny_bind (thn (dc_core (Qf := fun _ s' => SP X pins D .next s') hc nd I hi ok hg ht hk he hs h' fun L C s' m H' I' q hn f => ?_) fun _ s' hq => wpAny_pure (wpAny_pure hq))
  show wpAny _ _ (assign (.Name y py) X.env (.ref L)) _ _ _
  refine wpAny_assign_Name (store_ok2 (v := V.ref L) I' nd hy (.inl yl) rfl (fun s2 I2 z => ?_) (.inr yl))
  obtain ⟨a, sb, ha⟩ := z
  obtain ⟨g0, g1, g2, g3, g4, g5⟩ := f
  have ne : C ≠ a := ha.elim (fun z => by rw [z]; exact g1) fun z e => g4 y a z e.symm
  exact ⟨m, hn.sameBut sb ne, fun h3 sb3 => ⟨_, H', I2.turned (t' := s2.toks) (fun b o hb e => (sb3.2 b hb).trans e) g0 g1 g3 g4 g5, q⟩⟩
theorem swD_true {kx vx : Expr} {gs : List Comprehension} {scope : Scope} {cpos py : Pos} {y : Str} {l : Nat} {env : Env} (hk : env.scope.kind = .function) (hy : env.scope.names.lookup y = some .local) (hl : (py.line == cpos.line) = true)
    (ha : (scope.names.any fun (n, k) => n == y && (k == .local || k == .cell)) = false) : swapsWith (.DictComp kx vx gs scope cpos) (some (.Name y py)) l env = pure true := by
  have k1 : env.kindOf y = some .local := hy
  have k2 : env.blockKind = .function := by unfold Env.blockKind; rw [hk]; rfl
  unfold swapsWith
  simp only [k2, k1, ha, Expr.pos, hl]
  rfl
/-! any + -/
def rAddU (K : PySem.W.Frag) : R2 := fun x y H Q => rI0 (fun i j => .int (i + j)) x y H Q ∨ ((∃ i j, x = .str i ∧ y = .str j ∧ i.length + j.length ≤ sizeLine ∧ Q (.str (i ++ j)) H) ∨ (rCat x y H Q ∨ rCatA K x y H Q))
theorem op_addU : OpR X (binaryOp .Add) (rAddU X.K) := op_add.or (op_add_str.or (op_cat.or op_catA))
def gAddU (a b : D) : Option D := oel (g2I (fun _ _ => true) (fun i j => .int (i + j)) a b) (oel (gAddS a b) (oel (gAddL a b) (gAddT a b)))
theorem r2_addU {K : PySem.W.Frag} : R2D (rAddU K) gAddU := r2_I0.or (r2_addS.or (r2_addL.or r2_addT))
/-! < and its like, of ints or texts -/
def rLtU : R2 := fun x y H Q => rI0 (fun i j => .bl (decide (i < j))) x y H Q ∨ ∃ i j, x = .str i ∧ y = .str j ∧ Q (.bl (decide (i.cps.toList < j.cps.toList))) H
theorem op_ltU : OpR X (compareOp .Lt) rLtU := op_lt.or op_lt_str
def gLtU (a b : D) : Option D := oel (g2I (fun _ _ => true) (fun i j => .bool (decide (i < j))) a b) (g2S (fun i j => some (.bool (decide (i.cps.toList < j.cps.toList)))) a b)
theorem r2_ltU : R2D rLtU gLtU := r2_B0.or r2_Sb
def rLeU : R2 := fun x y H Q => rI0 (fun i j => .bl (decide (i ≤ j))) x y H Q ∨ ∃ i j, x = .str i ∧ y = .str j ∧ Q (.bl (!decide (j.cps.toList < i.cps.toList))) H
theorem op_leU : OpR X (compareOp .LtE) rLeU := op_le.or op_le_str
def gLeU (a b : D) : Option D := oel (g2I (fun _ _ => true) (fun i j => .bool (decide (i ≤ j))) a b) (g2S (fun i j => some (.bool (!decide (j.cps.toList < i.cps.toList)))) a b)
theorem r2_leU : R2D rLeU gLeU := r2_B0.or r2_Sb
def rGtU : R2 := fun x y H Q => rI0 (fun i j => .bl (decide (j < i))) x y H Q ∨ ∃ i j, x = .str i ∧ y = .str j ∧ Q (.bl (decide (j.cps.toList < i.cps.toList))) H
theorem op_gtU : OpR X (compareOp .Gt) rGtU := op_gt.or op_gt_str
def gGtU (a b : D) : Option D := oel (g2I (fun _ _ => true) (fun i j => .bool (decide (j < i))) a b) (g2S (fun i j => some (.bool (decide (j.cps.toList < i.cps.toList)))) a b)
theorem r2_gtU : R2D rGtU gGtU := r2_B0.or r2_Sb
def rGeU : R2 := fun x y H Q => rI0 (fun i j => .bl (decide (j ≤ i))) x y H Q ∨ ∃ i j, x = .str i ∧ y = .str j ∧ Q (.bl (!decide (i.cps.toList < j.cps.toList))) H
theorem op_geU : OpR X (compareOp .GtE) rGeU := op_ge.or op_ge_str
def gGeU (a b : D) : Option D := oel (g2I (fun _ _ => true) (fun i j => .bool (decide (j ≤ i))) a b) (g2S (fun i j => some (.bool (!decide (i.cps.toList < j.cps.toList)))) a b)
theorem r2_geU : R2D rGeU gGeU := r2_B0.or r2_Sb
def rEqU (K : PySem.W.Frag) : R2 := fun x y H Q => rEq x y H Q ∨ rEqD K x y H Q
def rNeU (K : PySem.W.Frag) : R2 := fun x y H Q => rNe x y H Q ∨ rNeD K x y H Q
def rSub : R2 := rI0 fun i j => .int (i - j)
def gSub : D → D → Option D := g2I (fun _ _ => true) fun i j => .int (i - j)
theorem r2_sub : R2D rSub gSub := r2_I0
def rMul : R2 := rI CMul fun i j => .int (i * j)
def rDiv : R2 := rI CDiv fun i j => .int (i / j)
def rMod : R2 := rI (fun _ j => 0 < j) fun i j => .int (i % j)
def rPow : R2 := rI CPow fun i j => .int (i ^ j.toNat)
def rNeg : V → Hp → VK → Prop := rU fun i => .int (-i)
def rTupA (K : PySem.W.Frag) : List V → Hp → VK → Prop := fun xs H Q => ∃ p ys, xs = [.ref p] ∧ ((SqL K H p ys ∧ ∀ l, H l = none → Q (.ref l) (upd H l (.tup ys))) ∨ (SqT K H p ys ∧ Q (.ref p) H))
def rLstA (K : PySem.W.Frag) : List V → Hp → VK → Prop := fun xs H Q => ∃ p ys, xs = [.ref p] ∧ (SqL K H p ys ∨ SqT K H p ys) ∧ ∀ l, H l = none → Q (.ref l) (upd H l (.lst ys))
theorem hu1 {k : Nat} {A : Around} (r : Room k A) : A.units + 1 < cLine := by have := r.un; omega
theorem hu64 {k : Nat} {A : Around} (r : Room k A) : A.units + 64 < cLine := by have := r.un; omega
theorem hu65 {k : Nat} {A : Around} (r : Room k A) : A.units + 65 < cLine := by have := r.un; omega
theorem op_eqU (hu : X.A.units + 64 < cLine) : OpR X (compareOp .Eq) (rEqU X.K) := op_eq.or (op_eqD hu)
theorem op_neU (hu : X.A.units + 64 < cLine) : OpR X (compareOp .NotEq) (rNeU X.K) := op_ne.or (op_neD hu)
theorem r2_eqU {K : PySem.W.Frag} : R2D (rEqU K) gEq := r2_eq
theorem r2_neU {K : PySem.W.Frag} : R2D (rNeU K) gNe := r2_ne
end
/-! a def of the module, by name -/
structure Cal (P : Program) (w : World) (K : PySem.W.Frag) (mg : Str → Option Value) (base : Heap) (x : Str) (k : Nat) (ps : List Str) (sp : Sp) (f : Addr) (fd : FuncData) : Prop where
  G : FnG P w K mg base CX0 k f fd ps sp
  m : mg x = some (.ref f)
  kp : PySem.W.keepIn K (.ref f) = true
  b : Binds K fd ps []
section
variable {X : Cx} {k j : Nat} {f : Addr} {fd : FuncData} {ps : List Str} {sp : Sp} {x : Str} {p pos : Pos} {e : Expr} {es : List Expr} {t : TA}
theorem pe_calC (C : Cal X.prog X.w X.K X.mg X.base x k ps sp f fd) (hg : X.A.guards = some []) (hr : Room j X.A) (hj : k ≤ j) (hgl : Gl X x) (ha : PA X (e :: es) t) (hdb : (x == ("__debug__" : Str)) = false := by decide)
    (he : starEach (e :: es) X.env = (false, eval e X.env) :: starEach es X.env := by rfl) (hpl : (backTo pos (starEach es X.env)).any (·.1) = false := by rfl) :
    PE X (.Call (.Name x p) (e :: es) [] pos) (tCall sp [] E0 t) :=
  pe_callG C.G hg (hr.mono hj) hgl C.m C.kp C.b .nil pass0 ha hdb he hpl
theorem pe_cal0 (C : Cal X.prog X.w X.K X.mg X.base x k ps sp f fd) (hg : X.A.guards = some []) (hr : Room j X.A) (hj : k ≤ j) (hgl : Gl X x) (hdb : (x == ("__debug__" : Str)) = false := by decide) :
    PE X (.Call (.Name x p) [] [] pos) (tCall sp [] E0 tNil) :=
  pe_callG0 C.G hg (hr.mono hj) hgl C.m C.kp C.b .nil pass0 hdb
theorem pe_calK {ix : List Nat} {kws : List Keyword} {tk : TA} {ks : List Str} (C : Cal X.prog X.w X.K X.mg X.base x k ps sp f fd) (hg : X.A.guards = some []) (hr : Room j X.A) (hj : k ≤ j) (hgl : Gl X x)
    (hb : ∀ (s : Shared) (ws : List Value), (perm ix ws).length = ps.length → BindsTo s fd ⟨[], ks.zip ws⟩ (ps.zip (perm ix ws))) (hkw : PK X kws tk)
    (hall : (backToKw pos (keywordEach kws X.env)).all (·.1.isSome) = true := by rfl) (hks : (backToKw pos (keywordEach kws X.env)).filterMap (·.1) = ks := by rfl) (hdb : (x == ("__debug__" : Str)) = false := by decide)
    (hpl : ((backTo pos (starEach [] X.env)).any (·.1) || (backToKw pos (keywordEach kws X.env)).any (·.1.isNone)) = false := by rfl) :
    PE X (.Call (.Name x p) [] kws pos) (tCallP sp ix E0 tk) :=
  pe_callGk C.G hg (hr.mono hj) hgl C.m C.kp hb pass0 hkw hall hks hdb hpl
end
end AP

/-! Walks over a list, a tuple or a text. -/
namespace AP
open PySem PySem.Spec PyProof.Rows L2 RZ
def iAny (K : PySem.W.Frag) (te : TE) : TI := fun σ H R => iSeq K te σ H R ∨ iStr te σ H R
theorem pi_any {X : Cx} {tg e : Expr} {te : TE} (he : PE X e te) : PI X tg e (iAny X.K te) := pi_or (pi_or (pi_list he) (pi_tup he)) (pi_str he)
def mAnyI (a : EM) : IM := fun s => match mItems a s with
  | some r => some r
  | none => mSigns a s
theorem si_any {K : PySem.W.Frag} {te : TE} {a : EM} (ha : Sn te a) : SnI (iAny K te) (mAnyI a) := by
  intro Z M s σ H h items o' e R f
  unfold mAnyI at e
  split at e
  · rename_i r hr
    cases e
    exact .inl (si_seq ha Z M s σ H h items o' hr R f)
  · exact .inr (si_str ha Z M s σ H h items o' e R f)
/-! arguments by name alone -/
theorem kw_of {K : PySem.W.Frag} {x qual : Str} {params : Arguments} {body : List Stmt} {scope : Scope} {kws : List (Str × V)} {f : Addr} {fd : FuncData} {ps ks : List Str} {ix : List Nat} (F : FunD K x qual params body scope [] kws f fd)
    (h : ∀ (u1 u2 u3 : Value) (a1 : Option Addr) (u4 u5 : Value) (ws : List Value), (perm ix ws).length = ps.length → bindArgs (PySem.W.fnOf x qual params body scope .none u1 u2 u3 a1 u4 u5) ⟨[], ks.zip ws⟩ = pure (ps.zip (perm ix ws)))
    (s : Shared) (ws : List Value) (hl : (perm ix ws).length = ps.length) : BindsTo s fd ⟨[], ks.zip ws⟩ (ps.zip (perm ix ws)) := by
  obtain ⟨_, _, dV, u1, u2, u3, a1, u4, u5, _, e, _, _, hd, _⟩ := F.ex
  subst e
  rcases hd with ⟨_, e⟩ | ⟨e, _⟩
  · subst e; exact .of_eq (h u1 u2 u3 a1 u4 u5 ws hl)
  · exact absurd rfl e
end AP

/-! What the functions give: loops, comprehensions, texts of data. -/
namespace AP
open PySem PySem.Spec PyProof.Rows L2 RZ
theorem S.on_eq (σ : List (Option SV)) (o o' : List MO) : S.on ⟨σ, o⟩ o' = ⟨σ, o'⟩ := rfl
/-- one turn of a comprehension whose parts change nothing -/
def Turn1 (g : GM) (c : TM) (e : EM) (τ : List (Option SV)) (o : List MO) (d : D) (p : Bool) (v : D) : Prop :=
  ∃ s2 : S, g (.d d) ⟨τ, o⟩ = some s2 ∧ c s2 = some (p, o) ∧ (p = true → e (s2.on o) = some (.d v, o))
theorem lc_eval {g : GM} {c : TM} {e : EM} {τ : List (Option SV)} {o0 : List MO} {p : D → Bool} {f : D → D} : ∀ (items : List D) (acc : List D), acc.length + items.length ≤ 100000 →
    (∀ d ∈ items, ∀ acc : List D, Turn1 g c e τ (o0 ++ [.l acc]) d (p d) (f d)) → lcLoop o0.length g c e τ items (o0 ++ [.l acc]) = some (o0 ++ [.l (acc ++ (items.filter p).map f)])
  | [], acc, _, _ => by simp [lcLoop]
  | d :: r, acc, hl, h => by
    obtain ⟨s2, h1, h2, h3⟩ := h d List.mem_cons_self acc
    simp only [List.length_cons] at hl
    unfold lcLoop
    rw [h1]
    dsimp only
    rw [h2]
    cases hp : p d with
    | false =>
      dsimp only
      rw [lc_eval r acc (by omega) fun d hd => h d (List.mem_cons_of_mem _ hd), List.filter_cons_of_neg (by rw [hp]; decide)]
    | true =>
      dsimp only
      rw [h3 hp]
      dsimp only
      have e1 : (o0 ++ [MO.l acc])[o0.length]? = some (.l acc) := by rw [List.getElem?_append_right (Nat.le_refl _)]; simp
      rw [e1]
      dsimp only
      rw [if_pos (show acc.length < 100000 by omega)]
      have e2 : (o0 ++ [MO.l acc]).set o0.length (.l (acc ++ [f d])) = o0 ++ [.l (acc ++ [f d])] := by
        rw [List.set_append_right _ _ (Nat.le_refl _)]; simp
      rw [e2, lc_eval r (acc ++ [f d]) (by simp only [List.length_append, List.length_cons, List.length_nil]; omega) fun d hd => h d (List.mem_cons_of_mem _ hd), List.filter_cons_of_pos hp, List.map_cons, List.append_assoc]
      rfl
theorem mLc_eval {im : IM} {g : GM} {c : TM} {e : EM} {vs : List Nat} {s : S} {items : List D} {p : D → Bool} {f : D → D} (hi : im s = some (items, s.o)) (hl : items.length ≤ 100000)
    (h : ∀ d ∈ items, ∀ acc : List D, Turn1 g c e (wipeS s.σ vs) (s.o ++ [.l acc]) d (p d) (f d)) : mLc im g c e vs s = some (.l ((items.filter p).map f), s.o) := by
  unfold mLc
  rw [hi]
  dsimp only
  rw [lc_eval items [] (by simpa using hl) h]
  dsimp only
  rw [List.getElem?_append_right (Nat.le_refl _)]
  simp
theorem mDat_eval {m : NM} {s : S} {r : MO} {o : List MO} (h : m s = some (r, o)) : mDat m s = some (.d (frz r), o) := by
  unfold mDat; rw [h]
/-- a for whose turns go through -/
theorem loop_eval {g : GM} {b : SM} (P : Nat → S → Prop) : ∀ (items : List D) (k : Nat) (s : S), P k s →
    (∀ i d s, items[i]? = some d → P (k + i) s → ∃ s1 s2, g (.d d) s = some s1 ∧ b s1 = some (.nx s2) ∧ P (k + i + 1) s2) → ∃ s', loopM g b items s = some (.nx s') ∧ P (k + items.length) s'
  | [], k, s, h0, _ => ⟨s, rfl, h0⟩
  | d :: r, k, s, h0, h => by
    obtain ⟨s1, s2, h1, h2, h3⟩ := h 0 d s rfl h0
    obtain ⟨s', e, q⟩ := loop_eval P r (k + 1) s2 h3 fun i x t hi ht => by
      have := h (i + 1) x t (by simpa using hi) (by rw [show k + (i + 1) = k + 1 + i by omega]; exact ht)
      rw [show k + (i + 1) + 1 = k + 1 + i + 1 by omega] at this
      exact this
    refine ⟨s', ?_, by rw [List.length_cons, show k + (r.length + 1) = k + 1 + r.length by omega]; exact q⟩
    unfold loopM
    rw [h1]
    dsimp only
    rw [h2]
    exact e
theorem mFor_eval {im : IM} {g : GM} {b : SM} {s : S} {items : List D} {o1 : List MO} (P : Nat → S → Prop) (hi : im s = some (items, o1)) (h0 : P 0 (s.on o1))
    (h : ∀ i d s, items[i]? = some d → P i s → ∃ s1 s2, g (.d d) s = some s1 ∧ b s1 = some (.nx s2) ∧ P (i + 1) s2) : ∃ s', mFor im g b s = some (.nx s') ∧ P items.length s' := by
  unfold mFor
  rw [hi]
  obtain ⟨s', e, q⟩ := loop_eval P items 0 (s.on o1) h0 fun i d t hi ht => by
    rw [Nat.zero_add] at ht ⊢
    exact h i d t hi ht
  exact ⟨s', e, by simpa using q⟩
/-! texts -/
mutual
def wz : D → Nat
  | .str x => 10 * x.length + 2
  | .list xs => wzs xs + 6
  | .tuple xs => wzs xs + 6
  | d => d.shown.length
def wzs : List D → Nat
  | [] => 0
  | x :: xs => wz x + 2 + wzs xs
end
theorem lst_len : ∀ ts : List Str, (listText ts).length ≤ piled ts + 2
  | [] => by rw [listText_nil]; decide
  | t :: r => by
    unfold listText
    have e1 : textFrom 0 "[" (t :: r) = textFrom 1 (("[" : String) ++ ((if 0 > 0 then ", " else "" : String) : Str) ++ t) r := rfl
    rw [strLen_append, e1, textFrom_length_pos _ _ _ (by decide), strLen_append, strLen_append, piled_cons]
    have e2 : ((("[" : String) : Str)).length = 1 := rfl
    have e3 : ((("]" : String) : Str)).length = 1 := rfl
    have e4 : (((if 0 > 0 then ", " else "" : String) : Str)).length = 0 := rfl
    omega
theorem tup_len (ts : List Str) : (tupleText ts).length ≤ piled ts + 3 := by
  unfold tupleText
  rw [strLen_append, strLen_append]
  have e1 : ((("(" : String) : Str)).length = 1 := rfl
  have e3 : (((if ts.length == 1 then ",)" else ")" : String) : Str)).length ≤ 2 := by split <;> decide
  rw [e1]
  by_cases h : ts = []
  · subst h
    have e0 : (Str.join ", " []).length = 0 := rfl
    omega
  · have := join_length_add ts h
    omega
mutual
theorem shown_le : ∀ d : D, d.canLay0 = true → d.shown.length ≤ wz d
  | .none, _ => by simp only [wz]; exact Nat.le_refl _
  | .bool _, _ => by simp only [wz]; exact Nat.le_refl _
  | .int _, _ => by simp only [wz]; exact Nat.le_refl _
  | .str x, h => by
    simp only [PyData.shown, wz]
    refine StrLaws.reprText_len x fun c hc => ?_
    have h' : x.cps.all (· < 0x110000) = true := by simp only [PyData.canLay0] at h; exact h
    have := Array.all_eq_true'.mp h' c (Array.mem_def.mpr hc)
    have h2 : c < 0x110000 := by simpa using this
    exact Nat.lt_of_lt_of_le h2 (by decide)
  | .list xs, h => by
    have h' : PyData.canLayAll0 xs = true := by simpa [PyData.canLay0] using h
    simp only [PyData.shown, wz]
    have := shown_les xs h'
    have := lst_len (PyData.shownAll xs)
    omega
  | .tuple xs, h => by
    have h' : PyData.canLayAll0 xs = true := by simpa [PyData.canLay0] using h
    simp only [PyData.shown, wz]
    have := shown_les xs h'
    have := tup_len (PyData.shownAll xs)
    omega
  | .dict _, h => by simp [PyData.canLay0] at h
theorem shown_les : ∀ xs : List D, PyData.canLayAll0 xs = true → piled (PyData.shownAll xs) ≤ wzs xs
  | [], _ => by simp [PyData.shownAll, wzs, piled]
  | x :: xs, h => by
    have h' : x.canLay0 = true ∧ PyData.canLayAll0 xs = true := by simpa [PyData.canLayAll0] using h
    have h1 := shown_le x h'.1
    have h2 := shown_les xs h'.2
    simp only [PyData.shownAll, piled_cons, wzs]
    omega
end
mutual
theorem noD_of : ∀ d : D, d.canLay0 = true → noD d = true
  | .none, _ => by simp only [noD]
  | .bool _, _ => by simp only [noD]
  | .int _, _ => by simp only [noD]
  | .str _, _ => by simp only [noD]
  | .list xs, h => by simp only [noD]; exact noDs_of xs (by simpa [PyData.canLay0] using h)
  | .tuple xs, h => by simp only [noD]; exact noDs_of xs (by simpa [PyData.canLay0] using h)
  | .dict _, h => by simp [PyData.canLay0] at h
theorem noDs_of : ∀ xs : List D, PyData.canLayAll0 xs = true → noDs xs = true
  | [], _ => by simp only [noDs]
  | x :: xs, h => by
    have h' : x.canLay0 = true ∧ PyData.canLayAll0 xs = true := by simpa [PyData.canLayAll0] using h
    simp only [noDs, noD_of x h'.1, noDs_of xs h'.2, Bool.and_self]
end
theorem gRepr_ok {d : D} (h1 : d.canLay0 = true) (h2 : d.showable = true) (h3 : wz d ≤ 100000) (h4 : d.depth ≤ 60) : gRepr [d] = some (.str d.shown) := by
  have h5 : d.shown.length ≤ 100000 := Nat.le_trans (shown_le d h1) h3
  simp only [gRepr, noD_of d h1, h2, PyData.hasDict_of_canLay d h1, Bool.not_false, Bool.and_true, decide_eq_true h5, decide_eq_true h4, if_true]
theorem shp_of {d : D} (h1 : d.canLay0 = true) (h2 : d.depth ≤ 64) : shp d = true := by
  simp only [shp, SeqAt.shaped, noD_of d h1, h1, decide_eq_true h2, Bool.and_self]
end AP

/-! The feed: what its keys give. -/
namespace AP
open PySem PySem.Spec PyProof.Rows L2 RZ
def fdl (c n l w : D) : List (Key × D) := [(kC, c), (kN, n), (kL, l), (kW, w)]
theorem fk1 : ¬ kC = kN := by decide +kernel
theorem fk2 : ¬ kC = kL := by decide +kernel
theorem fk3 : ¬ kC = kW := by decide +kernel
theorem fk4 : ¬ kN = kL := by decide +kernel
theorem fk5 : ¬ kN = kW := by decide +kernel
theorem fk6 : ¬ kL = kW := by decide +kernel
theorem toKey_kD (k : Key) : toKey (kD k) = some k := by cases k <;> rfl
theorem getP_kv {ps : List (Key × D)} {k : Key} : getP (kvD ps) k = (ps.find? fun p => decide (p.1 = k)).map (·.2) := by
  induction ps with
  | nil => rfl
  | cons p r ih =>
    show (if toKey (kD p.1) = some k then some p.2 else getP (kvD r) k) = _
    rw [toKey_kD, List.find?_cons]
    by_cases h : p.1 = k
    · rw [if_pos (by rw [h])]; simp [h]
    · rw [if_neg (fun e => h (Option.some.inj e)), ih]; simp [h]
theorem fix (c n l w : D) (k : Key) (x : D) (hk : toKey x = some k) : gIx (.dict (kvD (fdl c n l w))) x = if kC = k then some c else if kN = k then some n else if kL = k then some l else if kW = k then some w else none := by
  have : gIx (.dict (kvD (fdl c n l w))) x = getP (kvD (fdl c n l w)) k := by simp only [gIx, hk]
  rw [this, getP_kv]
  unfold fdl
  simp only [List.find?_cons, List.find?_nil]
  by_cases h1 : kC = k
  · simp [h1]
  · by_cases h2 : kN = k
    · simp [h1, h2]
    · by_cases h3 : kL = k
      · simp [h1, h2, h3]
      · by_cases h4 : kW = k
        · simp [h1, h2, h3, h4]
        · simp [h1, h2, h3, h4]
end AP

/-! More of what the functions give: cuts, sorted texts, dicts by comprehension, membership. -/
namespace AP
open PySem PySem.Spec PyProof.Rows L2 RZ
theorem cut_take {α : Type} (xs : List α) {k : Int} (h0 : 0 ≤ k) : cutD xs none (some k) = xs.take k.toNat := by
  obtain ⟨n, rfl⟩ := Int.eq_ofNat_of_zero_le h0
  unfold cutD
  rw [HT.sIx_none, List.drop_zero, show HT.sIx xs.length xs.length (some ((n : Nat) : Int)) = min n xs.length from HT.sIx_nat _ _ n, Nat.sub_zero]
  show xs.take (min n xs.length) = xs.take n
  rw [List.take_eq_take_iff]; omega
theorem cut_drop {α : Type} (xs : List α) {k : Int} (h0 : 0 ≤ k) : cutD xs (some k) none = xs.drop k.toNat := by
  obtain ⟨n, rfl⟩ := Int.eq_ofNat_of_zero_le h0
  unfold cutD
  rw [HT.sIx_none, show HT.sIx xs.length 0 (some ((n : Nat) : Int)) = min n xs.length from HT.sIx_nat _ _ n]
  show (xs.drop (min n xs.length)).take (xs.length - min n xs.length) = xs.drop n
  rw [List.take_of_length_le (by rw [List.length_drop]; omega)]
  by_cases h : n ≤ xs.length
  · rw [Nat.min_eq_left h]
  · rw [Nat.min_eq_right (by omega), List.drop_length, List.drop_eq_nil_of_le (by omega)]
theorem strsOf_map : ∀ xs : List Str, strsOf (xs.map .str) = some xs
  | [] => rfl
  | x :: xs => by simp only [List.map_cons, strsOf, strsOf_map xs]
theorem strsOf_eq : ∀ {ds : List D} {xs : List Str}, strsOf ds = some xs → ds = xs.map .str
  | [], xs, h => by simp only [strsOf] at h; cases h; rfl
  | d :: ds, xs, h => by
    cases d with
    | str x =>
      simp only [strsOf] at h
      cases e : strsOf ds with
      | none => rw [e] at h; cases h
      | some ys => rw [e] at h; cases h; rw [strsOf_eq e]; rfl
    | _ => simp [strsOf] at h
theorem gSorted_strs {xs : List Str} (h : xs.length < 64) : gSorted [.list (xs.map .str)] = some (.list ((sortS xs).map .str)) := by
  simp only [gSorted, strsOf_map, h, if_true]
theorem boolsOf_map : ∀ xs : List Bool, boolsOf (xs.map .bool) = some xs
  | [] => rfl
  | x :: xs => by simp only [List.map_cons, boolsOf, boolsOf_map xs]
theorem gAll_bools (xs : List Bool) : gAll [.list (xs.map .bool)] = some (.bool (xs.all id)) := by simp only [gAll, boolsOf_map]
/-! texts as data -/
def T (xs : List Str) : D := .tuple (xs.map .str)
theorem eqv_str (a b : Str) : PyData.eqv (.str a) (.str b) = (a == b) := by simp only [PyData.eqv]
theorem canLay_strs : ∀ {xs : List Str}, (∀ x ∈ xs, PyData.strOk x = true) → PyData.canLayAll0 (xs.map .str) = true
  | [], _ => by simp [PyData.canLayAll0]
  | x :: xs, h => by simp [PyData.canLayAll0, PyData.canLay0, h x List.mem_cons_self, canLay_strs fun y hy => h y (List.mem_cons_of_mem _ hy)]
theorem depth_strs : ∀ xs : List Str, PyData.depthAll (xs.map .str) = 0
  | [] => by simp [PyData.depthAll]
  | x :: xs => by simp [PyData.depthAll, PyData.depth, depth_strs xs]
theorem shp_T {xs : List Str} (h : ∀ x ∈ xs, PyData.strOk x = true) : shp (T xs) = true := shp_of (by simp only [T, PyData.canLay0]; exact canLay_strs h) (by simp only [T, PyData.depth, depth_strs]; decide)
theorem shp_str {x : Str} (h : PyData.strOk x = true) : shp (.str x) = true := shp_of (by simp only [PyData.canLay0]; exact h) (by simp only [PyData.depth]; decide)
theorem gInB_T {a : Str} {S : List Str} (ha : PyData.strOk a = true) (hS : ∀ x ∈ S, PyData.strOk x = true) : gInB (.str a) (T S) = some (S.contains a) := by
  have h1 := shp_T hS
  have h2 := shp_str ha
  unfold T at h1 ⊢
  unfold gInB
  simp only [h1, h2, Bool.and_self, if_true, List.any_map]
  congr 1
  rw [List.contains_eq_any_beq]
  congr 1
  funext z
  simp only [Function.comp, eqv_str]
  rw [Bool.eq_iff_iff, beq_iff_eq, beq_iff_eq]
  exact eq_comm
theorem gIn_T {a : Str} {S : List Str} (ha : PyData.strOk a = true) (hS : ∀ x ∈ S, PyData.strOk x = true) : gIn (.str a) (T S) = some (.bool (S.contains a)) := by simp only [gIn, gInB_T ha hS, Option.map_some]
theorem gNotIn_T {a : Str} {S : List Str} (ha : PyData.strOk a = true) (hS : ∀ x ∈ S, PyData.strOk x = true) : gNotIn (.str a) (T S) = some (.bool (!S.contains a)) := by simp only [gNotIn, gInB_T ha hS, Option.map_some]
/-! pairs of texts -/
def pr (p : Str × Str) : D := .tuple [.str p.1, .str p.2]
theorem canLay_pr {p : Str × Str} (h1 : PyData.strOk p.1 = true) (h2 : PyData.strOk p.2 = true) : (pr p).canLay0 = true := by simp [pr, PyData.canLay0, PyData.canLayAll0, h1, h2]
theorem depth_pr (p : Str × Str) : (pr p).depth = 1 := by simp [pr, PyData.depth, PyData.depthAll]
theorem canLay_prs : ∀ {ps : List (Str × Str)}, (∀ p ∈ ps, PyData.strOk p.1 = true ∧ PyData.strOk p.2 = true) → PyData.canLayAll0 (ps.map pr) = true
  | [], _ => by simp [PyData.canLayAll0]
  | p :: ps, h => by
    have := h p List.mem_cons_self
    simp [PyData.canLayAll0, canLay_pr this.1 this.2, canLay_prs fun y hy => h y (List.mem_cons_of_mem _ hy)]
theorem depth_prs : ∀ ps : List (Str × Str), PyData.depthAll (ps.map pr) ≤ 1
  | [] => by simp [PyData.depthAll]
  | p :: ps => by
    have := depth_prs ps
    simp only [List.map_cons, PyData.depthAll, depth_pr]; omega
/-! a dict by comprehension over texts -/
def dctT (xs : List Str) : List (Key × D) := xs.map fun x => (.inr x, .bool true)
theorem putD_new {ps : List (Key × D)} {k : Key} {v : D} (h : k ∉ ps.map (·.1)) : putD ps k v = ps ++ [(k, v)] := by
  induction ps with
  | nil => rfl
  | cons p r ih =>
    obtain ⟨a, b⟩ := p
    simp only [List.map_cons, List.mem_cons, not_or] at h
    simp only [putD, if_neg (fun e : a = k => h.1 e.symm), ih h.2, List.cons_append]
theorem dctT_keys (xs : List Str) : (dctT xs).map (·.1) = xs.map .inr := by unfold dctT; rw [List.map_map]; rfl
theorem nd_inr {xs : List Str} (h : xs.Nodup) : (xs.map (Sum.inr : Str → Key)).Nodup := by
  unfold List.Nodup at h ⊢
  rw [List.pairwise_map]
  exact h.imp fun q e => q (Sum.inr.inj e)
theorem dc_eval {g : GM} {c : TM} {ek ev : EM} {τ : List (Option SV)} {o0 : List MO} : ∀ (rest done : List Str), (done ++ rest).Nodup → done.length + rest.length ≤ 100000 →
    (∀ x ∈ rest, ∀ acc : List (Key × D), ∃ s2 : S, g (.d (.str x)) ⟨τ, o0 ++ [.k acc]⟩ = some s2 ∧ c s2 = some (true, o0 ++ [.k acc]) ∧ ek (s2.on (o0 ++ [.k acc])) = some (.d (.str x), o0 ++ [.k acc]) ∧ ev (s2.on (o0 ++ [.k acc])) = some (.d (.bool true), o0 ++ [.k acc])) →
    dcLoop o0.length g c ek ev τ (rest.map .str) (o0 ++ [.k (dctT done)]) = some (o0 ++ [.k (dctT (done ++ rest))])
  | [], done, _, _, _ => by simp [dcLoop]
  | x :: r, done, nd, hl, h => by
    obtain ⟨s2, h1, h2, h3, h4⟩ := h x List.mem_cons_self (dctT done)
    simp only [List.length_cons] at hl
    have e1 : (o0 ++ [MO.k (dctT done)])[o0.length]? = some (.k (dctT done)) := by rw [List.getElem?_append_right (Nat.le_refl _)]; simp
    have nd1 : done.Nodup := (List.nodup_append.mp nd).1
    have nx : x ∉ done := fun hx => (List.nodup_append.mp nd).2.2 x hx x List.mem_cons_self rfl
    rw [List.map_cons]
    unfold dcLoop
    rw [h1]
    dsimp only
    rw [h2]
    dsimp only
    rw [h3]
    dsimp only
    rw [h4]
    dsimp only
    rw [show toKey (.str x) = some (.inr x) from rfl, e1]
    dsimp only
    rw [if_pos ⟨by unfold dctT; rw [List.length_map]; omega, by rw [dctT_keys]; exact nd_inr nd1⟩, putD_new (by rw [dctT_keys]; intro hm; obtain ⟨y, hy, e⟩ := List.mem_map.mp hm; cases e; exact nx hy)]
    have e2 : (o0 ++ [MO.k (dctT done)]).set o0.length (.k (dctT done ++ [(.inr x, .bool true)])) = o0 ++ [.k (dctT (done ++ [x]))] := by
      rw [List.set_append_right _ _ (Nat.le_refl _)]
      unfold dctT
      simp
    rw [e2, dc_eval r (done ++ [x]) (by rw [List.append_assoc]; exact nd) (by rw [List.length_append]; simp; omega) fun y hy => h y (List.mem_cons_of_mem _ hy), List.append_assoc]
    rfl
theorem mDc_eval {im : IM} {g : GM} {c : TM} {ek ev : EM} {vs : List Nat} {s : S} {xs : List Str} (hi : im s = some (xs.map .str, s.o)) (nd : xs.Nodup) (hl : xs.length ≤ 100000)
    (h : ∀ x ∈ xs, ∀ acc : List (Key × D), ∃ s2 : S, g (.d (.str x)) ⟨wipeS s.σ vs, s.o ++ [.k acc]⟩ = some s2 ∧ c s2 = some (true, s.o ++ [.k acc]) ∧ ek (s2.on (s.o ++ [.k acc])) = some (.d (.str x), s.o ++ [.k acc]) ∧ ev (s2.on (s.o ++ [.k acc])) = some (.d (.bool true), s.o ++ [.k acc])) :
    mDc im g c ek ev vs s = some (.k (dctT xs), s.o) := by
  unfold mDc
  rw [hi]
  dsimp only
  have := dc_eval xs [] (by simpa using nd) (by simpa using hl) h
  rw [show dctT [] = [] from rfl, List.nil_append] at this
  rw [this]
  dsimp only
  rw [List.getElem?_append_right (Nat.le_refl _)]
  simp
end AP

/-! The defs of the row: what each reading is, and what it does to data. -/
namespace G06
open PySem PySem.Spec PyProof.Rows L2 RZ AP
def top (i : Nat) : Stmt := PySem.Challenge.pw_allpieces_k06_whole_wires_about.main.body.getD i (.Pass ⟨0, 0, 0, 0⟩)
abbrev FnP (K : PySem.W.Frag) (x : Str) (st : Stmt) (f : Addr) (fd : FuncData) : Prop := FunD K x x (defArgs st) (defBody st) (defScope st) [] [] f fd
/-! is_pair -/
abbrev s_is_pair : Stmt := top 7
abbrev N_is_pair : List Str := ["thing"]
theorem sc_is_pair : FnScope N_is_pair ["thing"] (defScope s_is_pair) := ⟨rfl, rfl, rfl, by decide +kernel, rfl, by decide +kernel, by decide +kernel⟩
def t_is_pair (K : PySem.W.Frag) : TS := (tRet (tAndT K (tCB (rIsi K) (tCons (tVar 0) (tCons (tC (.ty (Ty.nm .tuple))) tNil))) (tOp (rEqU K) (tCB (rLenA K) (tCons (tVar 0) tNil)) (tC (.int 2)))))
def m_is_pair : SM := (mRet (mAndV (mIsi .tuple (mVar 0)) (mOp gEq (mCB gLen (mCons (mVar 0) mNil)) (mC (.int 2)))))
theorem ss_is_pair (K : PySem.W.Frag) : SnS (t_is_pair K) m_is_pair := (ss_ret (sn_andV (sn_isi sn_var) (sn_op r2_eqU (sn_cb rc_len (sn_cons sn_var sn_nil)) sn_int)))
theorem ok_is_pair {P : Program} {w : World} {K : PySem.W.Frag} {mg : Str → Option Value} {base : Heap} {f : Addr} {fd : FuncData} (b_isinstance : mg "isinstance" = none) (b_len : mg "len" = none) (b_tuple : mg "tuple" = none) (F : FnP K "is_pair" s_is_pair f fd) : FnG P w K mg base CX0 1 f fd ["thing"] (spP 1 (runP 1 m_is_pair)) :=
  have nd := sc_is_pair.nd
  def_pure F sc_is_pair (fun cdv A outer s H E hg hr => PSs.nox ((pss_one (ps_ret (pe_andT (pe_callB call_isi (by rfl) b_isinstance boot_isinstance (pa_cons (pv 0) (pa_cons (pe_bltn (v := .ty (Ty.nm .tuple)) (by rfl) b_tuple boot_tuple rfl) pa_nil))) (pe_one (pe_cmpR (op_eqU (hu64 hr)) (pe_callB call_lenA (by rfl) b_len boot_len (pa_cons (pv 0) pa_nil)) pe_int (nomark _)))))))) (ss_is_pair K)
/-! is_name -/
abbrev s_is_name : Stmt := top 8
abbrev N_is_name : List Str := ["thing", "letter"]
theorem sc_is_name : FnScope N_is_name ["thing"] (defScope s_is_name) := ⟨rfl, rfl, rfl, by decide +kernel, rfl, by decide +kernel, by decide +kernel⟩
def t_is_name (K : PySem.W.Frag) : TS := (tSeq (tIfS (tOr (tNot (tTr K (tCB (rIsi K) (tCons (tVar 0) (tCons (tC (.ty (Ty.nm .str))) tNil))))) (tNot (tTest (tChain rLeU rLeU (tC (.int 1)) (tCB (rLenA K) (tCons (tVar 0) tNil)) (tC (.int 8)))))) (tRet (tC (.bl false))) tNext) (tRet (tCB (rAll K) (tCons (tLc (iAny K (tVar 0)) (gName 1) tYes (tChain rLeU rLeU (tC (.str (Str.ofString "a"))) (tVar 1) (tC (.str (Str.ofString "z")))) [1]) tNil))))
def m_is_name : SM := (mSeq (mIfS (mOr (mNot (mTr (mIsi .str (mVar 0)))) (mNot (mTest (mChain gLeU gLeU (mC (.int 1)) (mCB gLen (mCons (mVar 0) mNil)) (mC (.int 8)))))) (mRet (mC (.bool false))) mNext) (mRet (mCB gAll (mCons (mDat (mLc (mAnyI (mVar 0)) (mgName 1) mYes (mChain gLeU gLeU (mC (.str (Str.ofString "a"))) (mVar 1) (mC (.str (Str.ofString "z")))) [1])) mNil))))
theorem ss_is_name (K : PySem.W.Frag) : SnS (t_is_name K) m_is_name := (ss_seq (ss_if (sn_or (sn_not (sn_tr (sn_isi sn_var))) (sn_not (sn_test (sn_chain r2_leU r2_leU sn_int (sn_cb rc_len (sn_cons sn_var sn_nil)) sn_int)))) (ss_ret sn_bl) ss_next) (ss_ret (sn_cb rc_all (sn_cons (sn_dat (sn_lc (si_any sn_var) sg_name (gk_name (by decide)) sn_yes (sn_chain r2_leU r2_leU sn_str sn_var sn_str))) sn_nil))))
theorem ok_is_name {P : Program} {w : World} {K : PySem.W.Frag} {mg : Str → Option Value} {base : Heap} {f : Addr} {fd : FuncData} (b_all : mg "all" = none) (b_isinstance : mg "isinstance" = none) (b_len : mg "len" = none) (b_str : mg "str" = none) (F : FnP K "is_name" s_is_name f fd) : FnG P w K mg base CX0 1 f fd ["thing"] (spP 1 (runP 2 m_is_name)) :=
  have nd := sc_is_name.nd
  def_pure F sc_is_name (fun cdv A outer s H E hg hr => PSs.nox ((pss_cons (ps_if (pw_or (pt_not (pt_tr (pe_callB call_isi (by rfl) b_isinstance boot_isinstance (pa_cons (pv 0) (pa_cons (pe_bltn (v := .ty (Ty.nm .str)) (by rfl) b_str boot_str rfl) pa_nil))))) (pw_or1 (pt_not (pt_chain op_leU op_leU pe_int (pe_callB call_lenA (by rfl) b_len boot_len (pa_cons (pv 0) pa_nil)) pe_int)))).pt (pss_one (ps_ret pe_bl)) pss_nil) (pss_one (ps_ret (pe_callB (cr_all rfl) (by rfl) b_all boot_all (pa_cons (pe_lc (own := [("letter", 1)]) (g := (gName 1)) (tt := tYes) rfl nd  (pi_any (pv 0)) (blkOk_by (N := N_is_name) (sc := defScope s_is_name) (by decide +kernel)) (fun _ _ _ _ _ => (pg_name (i := 1) nd rfl (Or.inl rfl))) (fun _ _ _ _ _ => pts_nil) (fun _ _ _ _ _ => (pe_chain op_leU op_leU pe_str (pv 1) pe_str))) pa_nil))))))) (ss_is_name K)
/-! is_name_pair -/
abbrev s_is_name_pair : Stmt := top 9
abbrev N_is_name_pair : List Str := ["thing"]
theorem sc_is_name_pair : FnScope N_is_name_pair ["thing"] (defScope s_is_name_pair) := ⟨rfl, rfl, rfl, by decide +kernel, rfl, by decide +kernel, by decide +kernel⟩
def t_is_name_pair (K : PySem.W.Frag) : TS := (tRet (tAndT K (tCall (spP 1 (runP 1 m_is_pair)) [] E0 (tCons (tVar 0) tNil)) (tAndT K (tCall (spP 1 (runP 2 m_is_name)) [] E0 (tCons (tOp (rIxA K) (tVar 0) (tC (.int 0))) tNil)) (tCall (spP 1 (runP 2 m_is_name)) [] E0 (tCons (tOp (rIxA K) (tVar 0) (tC (.int 1))) tNil)))))
def m_is_name_pair : SM := (mRet (mAndV (mCall 1 (runP 1 m_is_pair) (mCons (mVar 0) mNil)) (mAndV (mCall 1 (runP 2 m_is_name) (mCons (mOp gIx (mVar 0) (mC (.int 0))) mNil)) (mCall 1 (runP 2 m_is_name) (mCons (mOp gIx (mVar 0) (mC (.int 1))) mNil)))))
theorem ss_is_name_pair (K : PySem.W.Frag) : SnS (t_is_name_pair K) m_is_name_pair := (ss_ret (sn_andV (sn_call (sn_cons sn_var sn_nil)) (sn_andV (sn_call (sn_cons (sn_op r2_ix sn_var sn_int) sn_nil)) (sn_call (sn_cons (sn_op r2_ix sn_var sn_int) sn_nil)))))
theorem ok_is_name_pair {P : Program} {w : World} {K : PySem.W.Frag} {mg : Str → Option Value} {base : Heap} {f : Addr} {fd : FuncData} {f_is_pair : Addr} {fd_is_pair : FuncData} (C_is_pair : Cal P w K mg base "is_pair" 1 ["thing"] (spP 1 (runP 1 m_is_pair)) f_is_pair fd_is_pair) {f_is_name : Addr} {fd_is_name : FuncData} (C_is_name : Cal P w K mg base "is_name" 1 ["thing"] (spP 1 (runP 2 m_is_name)) f_is_name fd_is_name) (F : FnP K "is_name_pair" s_is_name_pair f fd) : FnG P w K mg base CX0 2 f fd ["thing"] (spP 1 (runP 1 m_is_name_pair)) :=
  have nd := sc_is_name_pair.nd
  def_pure F sc_is_name_pair (fun cdv A outer s H E hg hr => PSs.nox ((pss_one (ps_ret (pe_andT (pe_calC C_is_pair hg hr (by decide) (by rfl) (pa_cons (pv 0) pa_nil)) (pe_andT (pe_calC C_is_name hg hr (by decide) (by rfl) (pa_cons (pe_ix (ix_A (hu64 hr)) (pv 0) pe_int (fun _ _ => rfl)) pa_nil)) (pe_one (pe_calC C_is_name hg hr (by decide) (by rfl) (pa_cons (pe_ix (ix_A (hu64 hr)) (pv 0) pe_int (fun _ _ => rfl)) pa_nil))))))))) (ss_is_name_pair K)
/-! is_houses -/
abbrev s_is_houses : Stmt := top 10
abbrev N_is_houses : List Str := ["thing", "name", "low", "high"]
theorem sc_is_houses : FnScope N_is_houses ["thing"] (defScope s_is_houses) := ⟨rfl, rfl, rfl, by decide +kernel, rfl, by decide +kernel, by decide +kernel⟩
def t_is_houses (K : PySem.W.Frag) : TS := (tSeq (tIfS (tOr (tNot (tTr K (tCB (rIsi K) (tCons (tVar 0) (tCons (tC (.ty (Ty.nm .tuple))) tNil))))) (tNot (tTr K (tVar 0)))) (tRet (tC (.bl false))) tNext) (tSeq (tIfS (tNot (tTr K (tCB (rAll K) (tCons (tLc (iAny K (tVar 0)) (gName 1) tYes (tCall (spP 1 (runP 2 m_is_name)) [] E0 (tCons (tVar 1) tNil)) [1]) tNil)))) (tRet (tC (.bl false))) tNext) (tRet (tCB (rAll K) (tCons (tLc (iZipA K (tCons (tVar 0) (tCons (tSl (rSlU K) (tVar 0) (tPart (tC (.int 1))) tNoPart) tNil))) (gTup K 2 (gCons (gName 2) (gCons (gName 3) gNil))) tYes (tOp rLtU (tVar 2) (tVar 3)) [2, 3]) tNil)))))
def m_is_houses : SM := (mSeq (mIfS (mOr (mNot (mTr (mIsi .tuple (mVar 0)))) (mNot (mTr (mVar 0)))) (mRet (mC (.bool false))) mNext) (mSeq (mIfS (mNot (mTr (mCB gAll (mCons (mDat (mLc (mAnyI (mVar 0)) (mgName 1) mYes (mCall 1 (runP 2 m_is_name) (mCons (mVar 1) mNil)) [1])) mNil)))) (mRet (mC (.bool false))) mNext) (mRet (mCB gAll (mCons (mDat (mLc (mZip (mCons (mVar 0) (mCons (mSl gSl (mVar 0) (mPart (mC (.int 1))) mNoPart) mNil))) (mgTup 2 (mgCons (mgName 2) (mgCons (mgName 3) mgNil))) mYes (mOp gLtU (mVar 2) (mVar 3)) [2, 3])) mNil)))))
theorem ss_is_houses (K : PySem.W.Frag) : SnS (t_is_houses K) m_is_houses := (ss_seq (ss_if (sn_or (sn_not (sn_tr (sn_isi sn_var))) (sn_not (sn_tr sn_var))) (ss_ret sn_bl) ss_next) (ss_seq (ss_if (sn_not (sn_tr (sn_cb rc_all (sn_cons (sn_dat (sn_lc (si_any sn_var) sg_name (gk_name (by decide)) sn_yes (sn_call (sn_cons sn_var sn_nil)))) sn_nil)))) (ss_ret sn_bl) ss_next) (ss_ret (sn_cb rc_all (sn_cons (sn_dat (sn_lc (si_zip (sn_cons sn_var (sn_cons (sn_sl rs_U sn_var (sn_part sn_int) sn_nopart) sn_nil))) (sg_tup (sgs_cons sg_name (sgs_cons sg_name sgs_nil))) (gk_tup (gks_cons (gk_name (by decide)) (gks_cons (gk_name (by decide)) gks_nil))) sn_yes (sn_op r2_ltU sn_var sn_var))) sn_nil)))))
theorem ok_is_houses {P : Program} {w : World} {K : PySem.W.Frag} {mg : Str → Option Value} {base : Heap} {f : Addr} {fd : FuncData} (b_all : mg "all" = none) (b_isinstance : mg "isinstance" = none) (b_tuple : mg "tuple" = none) (b_zip : mg "zip" = none) {f_is_name : Addr} {fd_is_name : FuncData} (C_is_name : Cal P w K mg base "is_name" 1 ["thing"] (spP 1 (runP 2 m_is_name)) f_is_name fd_is_name) (F : FnP K "is_houses" s_is_houses f fd) : FnG P w K mg base CX0 2 f fd ["thing"] (spP 1 (runP 4 m_is_houses)) :=
  have nd := sc_is_houses.nd
  def_pure F sc_is_houses (fun cdv A outer s H E hg hr => PSs.nox ((pss_cons (ps_if (pw_or (pt_not (pt_tr (pe_callB call_isi (by rfl) b_isinstance boot_isinstance (pa_cons (pv 0) (pa_cons (pe_bltn (v := .ty (Ty.nm .tuple)) (by rfl) b_tuple boot_tuple rfl) pa_nil))))) (pw_or1 (pt_not (pt_tr (pv 0))))).pt (pss_one (ps_ret pe_bl)) pss_nil) (pss_cons (ps_if (pt_not (pt_tr (pe_callB (cr_all rfl) (by rfl) b_all boot_all (pa_cons (pe_lc (own := [("name", 1)]) (g := (gName 1)) (tt := tYes) rfl nd  (pi_any (pv 0)) (blkOk_by (N := N_is_houses) (sc := defScope s_is_houses) (by decide +kernel)) (fun _ _ _ _ _ => (pg_name (i := 1) nd rfl (Or.inl rfl))) (fun _ _ _ _ _ => pts_nil) (fun _ _ _ _ _ => (pe_calC C_is_name hg hr (by decide) (by rfl) (pa_cons (pv 1) pa_nil)))) pa_nil)))) (pss_one (ps_ret pe_bl)) pss_nil) (pss_one (ps_ret (pe_callB (cr_all rfl) (by rfl) b_all boot_all (pa_cons (pe_lc (own := [("low", 2), ("high", 3)]) (g := (gTup K 2 (gCons (gName 2) (gCons (gName 3) gNil)))) (tt := tYes) rfl nd  (pi_zipA (by rfl) b_zip (pa_cons (pv 0) (pa_cons (pe_slice sl_U (pv 0) (po_some pe_int) po_none) pa_nil))) (blkOk_by (N := N_is_houses) (sc := defScope s_is_houses) (by decide +kernel)) (fun _ _ _ _ _ => (pg_tup rfl (pgs_cons (pg_name (i := 2) nd rfl (Or.inl rfl)) (pgs_cons (pg_name (i := 3) nd rfl (Or.inl rfl)) pgs_nil)))) (fun _ _ _ _ _ => pts_nil) (fun _ _ _ _ _ => (pe_cmpR op_ltU (pv 2) (pv 3) (nomark _)))) pa_nil)))))))) (ss_is_houses K)
/-! is_wire -/
abbrev s_is_wire : Stmt := top 11
abbrev N_is_wire : List Str := ["thing"]
theorem sc_is_wire : FnScope N_is_wire ["thing"] (defScope s_is_wire) := ⟨rfl, rfl, rfl, by decide +kernel, rfl, by decide +kernel, by decide +kernel⟩
def t_is_wire (K : PySem.W.Frag) : TS := (tRet (tAndT K (tCall (spP 1 (runP 1 m_is_name_pair)) [] E0 (tCons (tVar 0) tNil)) (tOp (rNeU K) (tOp (rIxA K) (tVar 0) (tC (.int 0))) (tOp (rIxA K) (tVar 0) (tC (.int 1))))))
def m_is_wire : SM := (mRet (mAndV (mCall 1 (runP 1 m_is_name_pair) (mCons (mVar 0) mNil)) (mOp gNe (mOp gIx (mVar 0) (mC (.int 0))) (mOp gIx (mVar 0) (mC (.int 1))))))
theorem ss_is_wire (K : PySem.W.Frag) : SnS (t_is_wire K) m_is_wire := (ss_ret (sn_andV (sn_call (sn_cons sn_var sn_nil)) (sn_op r2_neU (sn_op r2_ix sn_var sn_int) (sn_op r2_ix sn_var sn_int))))
theorem ok_is_wire {P : Program} {w : World} {K : PySem.W.Frag} {mg : Str → Option Value} {base : Heap} {f : Addr} {fd : FuncData} {f_is_name_pair : Addr} {fd_is_name_pair : FuncData} (C_is_name_pair : Cal P w K mg base "is_name_pair" 2 ["thing"] (spP 1 (runP 1 m_is_name_pair)) f_is_name_pair fd_is_name_pair) (F : FnP K "is_wire" s_is_wire f fd) : FnG P w K mg base CX0 3 f fd ["thing"] (spP 1 (runP 1 m_is_wire)) :=
  have nd := sc_is_wire.nd
  def_pure F sc_is_wire (fun cdv A outer s H E hg hr => PSs.nox ((pss_one (ps_ret (pe_andT (pe_calC C_is_name_pair hg hr (by decide) (by rfl) (pa_cons (pv 0) pa_nil)) (pe_one (pe_cmpR (op_neU (hu64 hr)) (pe_ix (ix_A (hu64 hr)) (pv 0) pe_int (fun _ _ => rfl)) (pe_ix (ix_A (hu64 hr)) (pv 0) pe_int (fun _ _ => rfl)) (nomark _)))))))) (ss_is_wire K)
/-! is_set_among -/
abbrev s_is_set_among : Stmt := top 12
abbrev N_is_set_among : List Str := ["thing", "houses", "house"]
theorem sc_is_set_among : FnScope N_is_set_among ["thing", "houses"] (defScope s_is_set_among) := ⟨rfl, rfl, rfl, by decide +kernel, rfl, by decide +kernel, by decide +kernel⟩
def t_is_set_among (K : PySem.W.Frag) : TS := (tRet (tAndT K (tCall (spP 1 (runP 4 m_is_houses)) [] E0 (tCons (tVar 0) tNil)) (tCB (rAll K) (tCons (tLc (iAny K (tVar 0)) (gName 2) tYes (tOp (rInA K fun b => b) (tVar 2) (tVar 1)) [2]) tNil))))
def m_is_set_among : SM := (mRet (mAndV (mCall 1 (runP 4 m_is_houses) (mCons (mVar 0) mNil)) (mCB gAll (mCons (mDat (mLc (mAnyI (mVar 0)) (mgName 2) mYes (mOp gIn (mVar 2) (mVar 1)) [2])) mNil))))
theorem ss_is_set_among (K : PySem.W.Frag) : SnS (t_is_set_among K) m_is_set_among := (ss_ret (sn_andV (sn_call (sn_cons sn_var sn_nil)) (sn_cb rc_all (sn_cons (sn_dat (sn_lc (si_any sn_var) sg_name (gk_name (by decide)) sn_yes (sn_op (r2_in (f := fun b => b)) sn_var sn_var))) sn_nil))))
theorem ok_is_set_among {P : Program} {w : World} {K : PySem.W.Frag} {mg : Str → Option Value} {base : Heap} {f : Addr} {fd : FuncData} (b_all : mg "all" = none) {f_is_houses : Addr} {fd_is_houses : FuncData} (C_is_houses : Cal P w K mg base "is_houses" 2 ["thing"] (spP 1 (runP 4 m_is_houses)) f_is_houses fd_is_houses) (F : FnP K "is_set_among" s_is_set_among f fd) : FnG P w K mg base CX0 3 f fd ["thing", "houses"] (spP 2 (runP 3 m_is_set_among)) :=
  have nd := sc_is_set_among.nd
  def_pure F sc_is_set_among (fun cdv A outer s H E hg hr => PSs.nox ((pss_one (ps_ret (pe_andT (pe_calC C_is_houses hg hr (by decide) (by rfl) (pa_cons (pv 0) pa_nil)) (pe_one (pe_callB (cr_all rfl) (by rfl) b_all boot_all (pa_cons (pe_lc (own := [("house", 2)]) (g := (gName 2)) (tt := tYes) rfl nd  (pi_any (pv 0)) (blkOk_by (N := N_is_set_among) (sc := defScope s_is_set_among) (by decide +kernel)) (fun _ _ _ _ _ => (pg_name (i := 2) nd rfl (Or.inl rfl))) (fun _ _ _ _ _ => pts_nil) (fun _ _ _ _ _ => (pe_cmpR (op_inA (hu65 hr)) (pv 2) (pv 1) (by with_unfolding_all rfl)))) pa_nil)))))))) (ss_is_set_among K)
/-! is_wire_among -/
abbrev s_is_wire_among : Stmt := top 13
abbrev N_is_wire_among : List Str := ["thing", "houses"]
theorem sc_is_wire_among : FnScope N_is_wire_among ["thing", "houses"] (defScope s_is_wire_among) := ⟨rfl, rfl, rfl, by decide +kernel, rfl, by decide +kernel, by decide +kernel⟩
def t_is_wire_among (K : PySem.W.Frag) : TS := (tRet (tAndT K (tCall (spP 1 (runP 1 m_is_wire)) [] E0 (tCons (tVar 0) tNil)) (tAndT K (tOp (rInA K fun b => b) (tOp (rIxA K) (tVar 0) (tC (.int 0))) (tVar 1)) (tOp (rInA K fun b => b) (tOp (rIxA K) (tVar 0) (tC (.int 1))) (tVar 1)))))
def m_is_wire_among : SM := (mRet (mAndV (mCall 1 (runP 1 m_is_wire) (mCons (mVar 0) mNil)) (mAndV (mOp gIn (mOp gIx (mVar 0) (mC (.int 0))) (mVar 1)) (mOp gIn (mOp gIx (mVar 0) (mC (.int 1))) (mVar 1)))))
theorem ss_is_wire_among (K : PySem.W.Frag) : SnS (t_is_wire_among K) m_is_wire_among := (ss_ret (sn_andV (sn_call (sn_cons sn_var sn_nil)) (sn_andV (sn_op (r2_in (f := fun b => b)) (sn_op r2_ix sn_var sn_int) sn_var) (sn_op (r2_in (f := fun b => b)) (sn_op r2_ix sn_var sn_int) sn_var))))
theorem ok_is_wire_among {P : Program} {w : World} {K : PySem.W.Frag} {mg : Str → Option Value} {base : Heap} {f : Addr} {fd : FuncData} {f_is_wire : Addr} {fd_is_wire : FuncData} (C_is_wire : Cal P w K mg base "is_wire" 3 ["thing"] (spP 1 (runP 1 m_is_wire)) f_is_wire fd_is_wire) (F : FnP K "is_wire_among" s_is_wire_among f fd) : FnG P w K mg base CX0 4 f fd ["thing", "houses"] (spP 2 (runP 2 m_is_wire_among)) :=
  have nd := sc_is_wire_among.nd
  def_pure F sc_is_wire_among (fun cdv A outer s H E hg hr => PSs.nox ((pss_one (ps_ret (pe_andT (pe_calC C_is_wire hg hr (by decide) (by rfl) (pa_cons (pv 0) pa_nil)) (pe_andT (pe_cmpR (op_inA (hu65 hr)) (pe_ix (ix_A (hu64 hr)) (pv 0) pe_int (fun _ _ => rfl)) (pv 1) (by with_unfolding_all rfl)) (pe_one (pe_cmpR (op_inA (hu65 hr)) (pe_ix (ix_A (hu64 hr)) (pv 0) pe_int (fun _ _ => rfl)) (pv 1) (by with_unfolding_all rfl))))))))) (ss_is_wire_among K)
/-! lets_net -/
abbrev s_lets_net : Stmt := top 15
abbrev N_lets_net : List Str := ["thing", "known", "houses", "wires", "k", "wire", "house"]
theorem sc_lets_net : FnScope N_lets_net ["thing"] (defScope s_lets_net) := ⟨rfl, rfl, rfl, by decide +kernel, rfl, by decide +kernel, by decide +kernel⟩
def t_lets_net (K : PySem.W.Frag) : TS := (tSeq (tIfS (tNot (tTr K (tCall (spP 1 (runP 1 m_is_pair)) [] E0 (tCons (tVar 0) tNil)))) tNever tNext) (tSeq (tAsg (tVar 0) (gTup K 2 (gCons (gName 2) (gCons (gName 3) gNil)))) (tSeq (tIfS (tNot (tTr K (tCall (spP 1 (runP 4 m_is_houses)) [] E0 (tCons (tVar 2) tNil)))) tNever tNext) (tSeq (tIfS (tNot (tTr K (tCB (rIsi K) (tCons (tVar 3) (tCons (tC (.ty (Ty.nm .tuple))) tNil))))) tNever tNext) (tSeq (tAsg (tDc (iAny K (tVar 2)) (gName 6) tYes (tVar 6) (tC (.bl true)) [6]) (gName 1)) (tSeq (tFor (iEnA K (tCons (tVar 3) tNil)) (gTup K 2 (gCons (gName 4) (gCons (gName 5) gNil))) (tIfS (tNot (tTr K (tCall (spP 2 (runP 2 m_is_wire_among)) [] E0 (tCons (tVar 5) (tCons (tVar 1) tNil))))) tNever tNext)) (tRet (tCB (rLenA K) (tCons (tVar 3) tNil)))))))))
def m_lets_net : SM := (mSeq (mIfS (mNot (mTr (mCall 1 (runP 1 m_is_pair) (mCons (mVar 0) mNil)))) mNever mNext) (mSeq (mAsg (mVar 0) (mgTup 2 (mgCons (mgName 2) (mgCons (mgName 3) mgNil)))) (mSeq (mIfS (mNot (mTr (mCall 1 (runP 4 m_is_houses) (mCons (mVar 2) mNil)))) mNever mNext) (mSeq (mIfS (mNot (mTr (mIsi .tuple (mVar 3)))) mNever mNext) (mSeq (mAsg (mDat (mDc (mAnyI (mVar 2)) (mgName 6) mYes (mVar 6) (mC (.bool true)) [6])) (mgName 1)) (mSeq (mFor (mEnum (mCons (mVar 3) mNil)) (mgTup 2 (mgCons (mgName 4) (mgCons (mgName 5) mgNil))) (mIfS (mNot (mTr (mCall 2 (runP 2 m_is_wire_among) (mCons (mVar 5) (mCons (mVar 1) mNil))))) mNever mNext)) (mRet (mCB gLen (mCons (mVar 3) mNil)))))))))
theorem ss_lets_net (K : PySem.W.Frag) : SnS (t_lets_net K) m_lets_net := (ss_seq (ss_if (sn_not (sn_tr (sn_call (sn_cons sn_var sn_nil)))) ss_never ss_next) (ss_seq (ss_asg sn_var (sg_tup (sgs_cons sg_name (sgs_cons sg_name sgs_nil)))) (ss_seq (ss_if (sn_not (sn_tr (sn_call (sn_cons sn_var sn_nil)))) ss_never ss_next) (ss_seq (ss_if (sn_not (sn_tr (sn_isi sn_var))) ss_never ss_next) (ss_seq (ss_asg (sn_dat (sn_dc (si_any sn_var) sg_name (gk_name (by decide)) sn_yes sn_var sn_bl)) sg_name) (ss_seq (ss_for (si_enum (sn_cons sn_var sn_nil)) (sg_tup (sgs_cons sg_name (sgs_cons sg_name sgs_nil))) (ss_if (sn_not (sn_tr (sn_call (sn_cons sn_var (sn_cons sn_var sn_nil))))) ss_never ss_next)) (ss_ret (sn_cb rc_len (sn_cons sn_var sn_nil)))))))))
theorem ok_lets_net {P : Program} {w : World} {K : PySem.W.Frag} {mg : Str → Option Value} {base : Heap} {f : Addr} {fd : FuncData} (b_enumerate : mg "enumerate" = none) (b_isinstance : mg "isinstance" = none) (b_len : mg "len" = none) (b_tuple : mg "tuple" = none) {f_is_pair : Addr} {fd_is_pair : FuncData} (C_is_pair : Cal P w K mg base "is_pair" 1 ["thing"] (spP 1 (runP 1 m_is_pair)) f_is_pair fd_is_pair) {f_is_houses : Addr} {fd_is_houses : FuncData} (C_is_houses : Cal P w K mg base "is_houses" 2 ["thing"] (spP 1 (runP 4 m_is_houses)) f_is_houses fd_is_houses) {f_is_wire_among : Addr} {fd_is_wire_among : FuncData} (C_is_wire_among : Cal P w K mg base "is_wire_among" 4 ["thing", "houses"] (spP 2 (runP 2 m_is_wire_among)) f_is_wire_among fd_is_wire_among) (F : FnP K "lets_net" s_lets_net f fd) : FnG P w K mg base CX0 5 f fd ["thing"] (spP 1 (runP 7 m_lets_net)) :=
  have nd := sc_lets_net.nd
  def_pure F sc_lets_net (fun cdv A outer s H E hg hr => PSs.nox ((pss_cons (ps_if (pt_not (pt_tr (pe_calC C_is_pair hg hr (by decide) (by rfl) (pa_cons (pv 0) pa_nil)))) (pss_one ps_never) pss_nil) (pss_cons (ps_asg (pv 0) (pg_tup rfl (pgs_cons (pg_name (i := 2) nd rfl (Or.inl rfl)) (pgs_cons (pg_name (i := 3) nd rfl (Or.inl rfl)) pgs_nil)))) (pss_cons (ps_if (pt_not (pt_tr (pe_calC C_is_houses hg hr (by decide) (by rfl) (pa_cons (pv 2) pa_nil)))) (pss_one ps_never) pss_nil) (pss_cons (ps_if (pt_not (pt_tr (pe_callB call_isi (by rfl) b_isinstance boot_isinstance (pa_cons (pv 3) (pa_cons (pe_bltn (v := .ty (Ty.nm .tuple)) (by rfl) b_tuple boot_tuple rfl) pa_nil))))) (pss_one ps_never) pss_nil) (pss_cons (ps_setDc (i := 1) (own := [("house", 6)]) (g := (gName 6)) (tt := tYes) rfl nd rfl rfl (swD_true rfl rfl rfl (by decide +kernel)) (pi_any (pv 2)) (blkOk_by (N := N_lets_net) (sc := defScope s_lets_net) (by decide +kernel)) (fun _ _ _ _ _ => (pg_name (i := 6) nd rfl (Or.inl rfl))) (fun _ _ _ _ _ => pts_nil) (fun _ _ _ _ _ => (pv 6)) (fun _ _ _ _ _ => pe_bl)) (pss_cons (ps_for PassesOwn.never rfl (pi_enA (by rfl) b_enumerate (pa_cons (pv 3) pa_nil)) (pg_tup rfl (pgs_cons (pg_name (i := 4) nd rfl (Or.inl rfl)) (pgs_cons (pg_name (i := 5) nd rfl (Or.inl rfl)) pgs_nil))) (pss_one (ps_if (pt_not (pt_tr (pe_calC C_is_wire_among hg hr (by decide) (by rfl) (pa_cons (pv 5) (pa_cons (pv 1) pa_nil))))) (pss_one ps_never) pss_nil))) (pss_one (ps_ret (pe_callB call_lenA (by rfl) b_len boot_len (pa_cons (pv 3) pa_nil)))))))))))) (ss_lets_net K)
/-! need_net -/
abbrev s_need_net : Stmt := top 17
abbrev N_need_net : List Str := ["net"]
theorem sc_need_net : FnScope N_need_net ["net"] (defScope s_need_net) := ⟨rfl, rfl, rfl, by decide +kernel, rfl, by decide +kernel, by decide +kernel⟩
def t_need_net (K : PySem.W.Frag) : TS := (tDrop (tCall (spP 1 (runP 7 m_lets_net)) [] E0 (tCons (tVar 0) tNil)))
def m_need_net : SM := (mDrop (mCall 1 (runP 7 m_lets_net) (mCons (mVar 0) mNil)))
theorem ss_need_net (K : PySem.W.Frag) : SnS (t_need_net K) m_need_net := (ss_drop (sn_call (sn_cons sn_var sn_nil)))
theorem ok_need_net {P : Program} {w : World} {K : PySem.W.Frag} {mg : Str → Option Value} {base : Heap} {f : Addr} {fd : FuncData} {f_lets_net : Addr} {fd_lets_net : FuncData} (C_lets_net : Cal P w K mg base "lets_net" 5 ["thing"] (spP 1 (runP 7 m_lets_net)) f_lets_net fd_lets_net) (F : FnP K "need_net" s_need_net f fd) : FnG P w K mg base CX0 6 f fd ["net"] (spP 1 (runP 1 m_need_net)) :=
  have nd := sc_need_net.nd
  def_pure F sc_need_net (fun cdv A outer s H E hg hr => PSs.nox ((pss_one (ps_try_thru0 (pss_one (ps_expr (pe_calC C_lets_net hg hr (by decide) (by rfl) (pa_cons (pv 0) pa_nil)))))))) (ss_need_net K)
/-! need_house -/
abbrev s_need_house : Stmt := top 18
abbrev N_need_house : List Str := ["net", "house"]
theorem sc_need_house : FnScope N_need_house ["net", "house"] (defScope s_need_house) := ⟨rfl, rfl, rfl, by decide +kernel, rfl, by decide +kernel, by decide +kernel⟩
def t_need_house (K : PySem.W.Frag) : TS := (tIfS (tTest (tOp (rInA K fun b => !b) (tVar 1) (tOp (rIxA K) (tVar 0) (tC (.int 0))))) tNever tNext)
def m_need_house : SM := (mIfS (mTest (mOp gNotIn (mVar 1) (mOp gIx (mVar 0) (mC (.int 0))))) mNever mNext)
theorem ss_need_house (K : PySem.W.Frag) : SnS (t_need_house K) m_need_house := (ss_if (sn_test (sn_op (r2_in (f := fun b => !b)) sn_var (sn_op r2_ix sn_var sn_int))) ss_never ss_next)
theorem ok_need_house {P : Program} {w : World} {K : PySem.W.Frag} {mg : Str → Option Value} {base : Heap} {f : Addr} {fd : FuncData} (F : FnP K "need_house" s_need_house f fd) : FnG P w K mg base CX0 1 f fd ["net", "house"] (spP 2 (runP 2 m_need_house)) :=
  have nd := sc_need_house.nd
  def_pure F sc_need_house (fun cdv A outer s H E hg hr => PSs.nox ((pss_one (ps_if (pt_cmpR (op_notInA (hu65 hr)) (pv 1) (pe_ix (ix_A (hu64 hr)) (pv 0) pe_int (fun _ _ => rfl)) (by with_unfolding_all rfl)) (pss_one ps_never) pss_nil)))) (ss_need_house K)
/-! need_houses -/
abbrev s_need_houses : Stmt := top 19
abbrev N_need_houses : List Str := ["net", "houses"]
theorem sc_need_houses : FnScope N_need_houses ["net", "houses"] (defScope s_need_houses) := ⟨rfl, rfl, rfl, by decide +kernel, rfl, by decide +kernel, by decide +kernel⟩
def t_need_houses (K : PySem.W.Frag) : TS := (tIfS (tNot (tTr K (tCall (spP 2 (runP 3 m_is_set_among)) [] E0 (tCons (tVar 1) (tCons (tOp (rIxA K) (tVar 0) (tC (.int 0))) tNil))))) tNever tNext)
def m_need_houses : SM := (mIfS (mNot (mTr (mCall 2 (runP 3 m_is_set_among) (mCons (mVar 1) (mCons (mOp gIx (mVar 0) (mC (.int 0))) mNil))))) mNever mNext)
theorem ss_need_houses (K : PySem.W.Frag) : SnS (t_need_houses K) m_need_houses := (ss_if (sn_not (sn_tr (sn_call (sn_cons sn_var (sn_cons (sn_op r2_ix sn_var sn_int) sn_nil))))) ss_never ss_next)
theorem ok_need_houses {P : Program} {w : World} {K : PySem.W.Frag} {mg : Str → Option Value} {base : Heap} {f : Addr} {fd : FuncData} {f_is_set_among : Addr} {fd_is_set_among : FuncData} (C_is_set_among : Cal P w K mg base "is_set_among" 3 ["thing", "houses"] (spP 2 (runP 3 m_is_set_among)) f_is_set_among fd_is_set_among) (F : FnP K "need_houses" s_need_houses f fd) : FnG P w K mg base CX0 4 f fd ["net", "houses"] (spP 2 (runP 2 m_need_houses)) :=
  have nd := sc_need_houses.nd
  def_pure F sc_need_houses (fun cdv A outer s H E hg hr => PSs.nox ((pss_one (ps_if (pt_not (pt_tr (pe_calC C_is_set_among hg hr (by decide) (by rfl) (pa_cons (pv 1) (pa_cons (pe_ix (ix_A (hu64 hr)) (pv 0) pe_int (fun _ _ => rfl)) pa_nil))))) (pss_one ps_never) pss_nil)))) (ss_need_houses K)
/-! into_of -/
abbrev s_into_of : Stmt := top 21
abbrev N_into_of : List Str := ["net", "houses", "k", "source", "target"]
theorem sc_into_of : FnScope N_into_of ["net", "houses"] (defScope s_into_of) := ⟨rfl, rfl, rfl, by decide +kernel, rfl, by decide +kernel, by decide +kernel⟩
def t_into_of (K : PySem.W.Frag) : TS := (tSeq (tDrop (tCall (spP 1 (runP 1 m_need_net)) [] E0 (tCons (tVar 0) tNil))) (tSeq (tDrop (tCall (spP 2 (runP 2 m_need_houses)) [] E0 (tCons (tVar 0) (tCons (tVar 1) tNil)))) (tRet (tCB (rTupA K) (tCons (tLc (iEnA K (tCons (tOp (rIxA K) (tVar 0) (tC (.int 1))) tNil)) (gTup K 2 (gCons (gName 2) (gCons (gTup K 2 (gCons (gName 3) (gCons (gName 4) gNil))) gNil))) (tAnd (tTest (tOp (rInA K fun b => !b) (tVar 3) (tVar 1))) (tTest (tOp (rInA K fun b => b) (tVar 4) (tVar 1)))) (tVar 2) [2, 3, 4]) tNil)))))
def m_into_of : SM := (mSeq (mDrop (mCall 1 (runP 1 m_need_net) (mCons (mVar 0) mNil))) (mSeq (mDrop (mCall 2 (runP 2 m_need_houses) (mCons (mVar 0) (mCons (mVar 1) mNil)))) (mRet (mCB gTuple (mCons (mDat (mLc (mEnum (mCons (mOp gIx (mVar 0) (mC (.int 1))) mNil)) (mgTup 2 (mgCons (mgName 2) (mgCons (mgTup 2 (mgCons (mgName 3) (mgCons (mgName 4) mgNil))) mgNil))) (mAnd (mTest (mOp gNotIn (mVar 3) (mVar 1))) (mTest (mOp gIn (mVar 4) (mVar 1)))) (mVar 2) [2, 3, 4])) mNil)))))
theorem ss_into_of (K : PySem.W.Frag) : SnS (t_into_of K) m_into_of := (ss_seq (ss_drop (sn_call (sn_cons sn_var sn_nil))) (ss_seq (ss_drop (sn_call (sn_cons sn_var (sn_cons sn_var sn_nil)))) (ss_ret (sn_cb rc_tuple (sn_cons (sn_dat (sn_lc (si_enum (sn_cons (sn_op r2_ix sn_var sn_int) sn_nil)) (sg_tup (sgs_cons sg_name (sgs_cons (sg_tup (sgs_cons sg_name (sgs_cons sg_name sgs_nil))) sgs_nil))) (gk_tup (gks_cons (gk_name (by decide)) (gks_cons (gk_tup (gks_cons (gk_name (by decide)) (gks_cons (gk_name (by decide)) gks_nil))) gks_nil))) (sn_and (sn_test (sn_op (r2_in (f := fun b => !b)) sn_var sn_var)) (sn_test (sn_op (r2_in (f := fun b => b)) sn_var sn_var))) sn_var)) sn_nil)))))
theorem ok_into_of {P : Program} {w : World} {K : PySem.W.Frag} {mg : Str → Option Value} {base : Heap} {f : Addr} {fd : FuncData} (b_enumerate : mg "enumerate" = none) (b_tuple : mg "tuple" = none) {f_need_net : Addr} {fd_need_net : FuncData} (C_need_net : Cal P w K mg base "need_net" 6 ["net"] (spP 1 (runP 1 m_need_net)) f_need_net fd_need_net) {f_need_houses : Addr} {fd_need_houses : FuncData} (C_need_houses : Cal P w K mg base "need_houses" 4 ["net", "houses"] (spP 2 (runP 2 m_need_houses)) f_need_houses fd_need_houses) (F : FnP K "into_of" s_into_of f fd) : FnG P w K mg base CX0 7 f fd ["net", "houses"] (spP 2 (runP 5 m_into_of)) :=
  have nd := sc_into_of.nd
  def_pure F sc_into_of (fun cdv A outer s H E hg hr => PSs.nox ((pss_cons (ps_expr (pe_calC C_need_net hg hr (by decide) (by rfl) (pa_cons (pv 0) pa_nil))) (pss_cons (ps_expr (pe_calC C_need_houses hg hr (by decide) (by rfl) (pa_cons (pv 0) (pa_cons (pv 1) pa_nil)))) (pss_one (ps_ret (pe_callTy call_tuple_of (by rfl) b_tuple boot_tuple (pa_cons (pe_lc (own := [("k", 2), ("source", 3), ("target", 4)]) (g := (gTup K 2 (gCons (gName 2) (gCons (gTup K 2 (gCons (gName 3) (gCons (gName 4) gNil))) gNil)))) (tt := (tAnd (tTest (tOp (rInA K fun b => !b) (tVar 3) (tVar 1))) (tTest (tOp (rInA K fun b => b) (tVar 4) (tVar 1))))) rfl nd  (pi_enA (by rfl) b_enumerate (pa_cons (pe_ix (ix_A (hu64 hr)) (pv 0) pe_int (fun _ _ => rfl)) pa_nil)) (blkOk_by (N := N_into_of) (sc := defScope s_into_of) (by decide +kernel)) (fun _ _ _ _ _ => (pg_tup rfl (pgs_cons (pg_name (i := 2) nd rfl (Or.inl rfl)) (pgs_cons (pg_tup rfl (pgs_cons (pg_name (i := 3) nd rfl (Or.inl rfl)) (pgs_cons (pg_name (i := 4) nd rfl (Or.inl rfl)) pgs_nil))) pgs_nil)))) (fun _ _ _ _ _ => (pts_one (pw_and (pt_cmpR (op_notInA (hu65 hr)) (pv 3) (pv 1) (by with_unfolding_all rfl)) (pw_and1 (pt_cmpR (op_inA (hu65 hr)) (pv 4) (pv 1) (by with_unfolding_all rfl)))).pt)) (fun _ _ _ _ _ => (pv 2))) pa_nil)))))))) (ss_into_of K)
/-! out_of -/
abbrev s_out_of : Stmt := top 22
abbrev N_out_of : List Str := ["net", "houses", "k", "source", "target"]
theorem sc_out_of : FnScope N_out_of ["net", "houses"] (defScope s_out_of) := ⟨rfl, rfl, rfl, by decide +kernel, rfl, by decide +kernel, by decide +kernel⟩
def t_out_of (K : PySem.W.Frag) : TS := (tSeq (tDrop (tCall (spP 1 (runP 1 m_need_net)) [] E0 (tCons (tVar 0) tNil))) (tSeq (tDrop (tCall (spP 2 (runP 2 m_need_houses)) [] E0 (tCons (tVar 0) (tCons (tVar 1) tNil)))) (tRet (tCB (rTupA K) (tCons (tLc (iEnA K (tCons (tOp (rIxA K) (tVar 0) (tC (.int 1))) tNil)) (gTup K 2 (gCons (gName 2) (gCons (gTup K 2 (gCons (gName 3) (gCons (gName 4) gNil))) gNil))) (tAnd (tTest (tOp (rInA K fun b => b) (tVar 3) (tVar 1))) (tTest (tOp (rInA K fun b => !b) (tVar 4) (tVar 1)))) (tVar 2) [2, 3, 4]) tNil)))))
def m_out_of : SM := (mSeq (mDrop (mCall 1 (runP 1 m_need_net) (mCons (mVar 0) mNil))) (mSeq (mDrop (mCall 2 (runP 2 m_need_houses) (mCons (mVar 0) (mCons (mVar 1) mNil)))) (mRet (mCB gTuple (mCons (mDat (mLc (mEnum (mCons (mOp gIx (mVar 0) (mC (.int 1))) mNil)) (mgTup 2 (mgCons (mgName 2) (mgCons (mgTup 2 (mgCons (mgName 3) (mgCons (mgName 4) mgNil))) mgNil))) (mAnd (mTest (mOp gIn (mVar 3) (mVar 1))) (mTest (mOp gNotIn (mVar 4) (mVar 1)))) (mVar 2) [2, 3, 4])) mNil)))))
theorem ss_out_of (K : PySem.W.Frag) : SnS (t_out_of K) m_out_of := (ss_seq (ss_drop (sn_call (sn_cons sn_var sn_nil))) (ss_seq (ss_drop (sn_call (sn_cons sn_var (sn_cons sn_var sn_nil)))) (ss_ret (sn_cb rc_tuple (sn_cons (sn_dat (sn_lc (si_enum (sn_cons (sn_op r2_ix sn_var sn_int) sn_nil)) (sg_tup (sgs_cons sg_name (sgs_cons (sg_tup (sgs_cons sg_name (sgs_cons sg_name sgs_nil))) sgs_nil))) (gk_tup (gks_cons (gk_name (by decide)) (gks_cons (gk_tup (gks_cons (gk_name (by decide)) (gks_cons (gk_name (by decide)) gks_nil))) gks_nil))) (sn_and (sn_test (sn_op (r2_in (f := fun b => b)) sn_var sn_var)) (sn_test (sn_op (r2_in (f := fun b => !b)) sn_var sn_var))) sn_var)) sn_nil)))))
theorem ok_out_of {P : Program} {w : World} {K : PySem.W.Frag} {mg : Str → Option Value} {base : Heap} {f : Addr} {fd : FuncData} (b_enumerate : mg "enumerate" = none) (b_tuple : mg "tuple" = none) {f_need_net : Addr} {fd_need_net : FuncData} (C_need_net : Cal P w K mg base "need_net" 6 ["net"] (spP 1 (runP 1 m_need_net)) f_need_net fd_need_net) {f_need_houses : Addr} {fd_need_houses : FuncData} (C_need_houses : Cal P w K mg base "need_houses" 4 ["net", "houses"] (spP 2 (runP 2 m_need_houses)) f_need_houses fd_need_houses) (F : FnP K "out_of" s_out_of f fd) : FnG P w K mg base CX0 7 f fd ["net", "houses"] (spP 2 (runP 5 m_out_of)) :=
  have nd := sc_out_of.nd
  def_pure F sc_out_of (fun cdv A outer s H E hg hr => PSs.nox ((pss_cons (ps_expr (pe_calC C_need_net hg hr (by decide) (by rfl) (pa_cons (pv 0) pa_nil))) (pss_cons (ps_expr (pe_calC C_need_houses hg hr (by decide) (by rfl) (pa_cons (pv 0) (pa_cons (pv 1) pa_nil)))) (pss_one (ps_ret (pe_callTy call_tuple_of (by rfl) b_tuple boot_tuple (pa_cons (pe_lc (own := [("k", 2), ("source", 3), ("target", 4)]) (g := (gTup K 2 (gCons (gName 2) (gCons (gTup K 2 (gCons (gName 3) (gCons (gName 4) gNil))) gNil)))) (tt := (tAnd (tTest (tOp (rInA K fun b => b) (tVar 3) (tVar 1))) (tTest (tOp (rInA K fun b => !b) (tVar 4) (tVar 1))))) rfl nd  (pi_enA (by rfl) b_enumerate (pa_cons (pe_ix (ix_A (hu64 hr)) (pv 0) pe_int (fun _ _ => rfl)) pa_nil)) (blkOk_by (N := N_out_of) (sc := defScope s_out_of) (by decide +kernel)) (fun _ _ _ _ _ => (pg_tup rfl (pgs_cons (pg_name (i := 2) nd rfl (Or.inl rfl)) (pgs_cons (pg_tup rfl (pgs_cons (pg_name (i := 3) nd rfl (Or.inl rfl)) (pgs_cons (pg_name (i := 4) nd rfl (Or.inl rfl)) pgs_nil))) pgs_nil)))) (fun _ _ _ _ _ => (pts_one (pw_and (pt_cmpR (op_inA (hu65 hr)) (pv 3) (pv 1) (by with_unfolding_all rfl)) (pw_and1 (pt_cmpR (op_notInA (hu65 hr)) (pv 4) (pv 1) (by with_unfolding_all rfl)))).pt)) (fun _ _ _ _ _ => (pv 2))) pa_nil)))))))) (ss_out_of K)
/-! between -/
abbrev s_between : Stmt := top 23
abbrev N_between : List Str := ["net", "source", "target", "k", "wire"]
theorem sc_between : FnScope N_between ["net", "source", "target"] (defScope s_between) := ⟨rfl, rfl, rfl, by decide +kernel, rfl, by decide +kernel, by decide +kernel⟩
def t_between (K : PySem.W.Frag) : TS := (tSeq (tDrop (tCall (spP 1 (runP 1 m_need_net)) [] E0 (tCons (tVar 0) tNil))) (tSeq (tDrop (tCall (spP 2 (runP 2 m_need_house)) [] E0 (tCons (tVar 0) (tCons (tVar 1) tNil)))) (tSeq (tDrop (tCall (spP 2 (runP 2 m_need_house)) [] E0 (tCons (tVar 0) (tCons (tVar 2) tNil)))) (tRet (tCB (rTupA K) (tCons (tLc (iEnA K (tCons (tOp (rIxA K) (tVar 0) (tC (.int 1))) tNil)) (gTup K 2 (gCons (gName 3) (gCons (gName 4) gNil))) (tTest (tOp (rEqU K) (tVar 4) (tTup (tCons (tVar 1) (tCons (tVar 2) tNil))))) (tVar 3) [3, 4]) tNil))))))
def m_between : SM := (mSeq (mDrop (mCall 1 (runP 1 m_need_net) (mCons (mVar 0) mNil))) (mSeq (mDrop (mCall 2 (runP 2 m_need_house) (mCons (mVar 0) (mCons (mVar 1) mNil)))) (mSeq (mDrop (mCall 2 (runP 2 m_need_house) (mCons (mVar 0) (mCons (mVar 2) mNil)))) (mRet (mCB gTuple (mCons (mDat (mLc (mEnum (mCons (mOp gIx (mVar 0) (mC (.int 1))) mNil)) (mgTup 2 (mgCons (mgName 3) (mgCons (mgName 4) mgNil))) (mTest (mOp gEq (mVar 4) (mTup (mCons (mVar 1) (mCons (mVar 2) mNil))))) (mVar 3) [3, 4])) mNil))))))
theorem ss_between (K : PySem.W.Frag) : SnS (t_between K) m_between := (ss_seq (ss_drop (sn_call (sn_cons sn_var sn_nil))) (ss_seq (ss_drop (sn_call (sn_cons sn_var (sn_cons sn_var sn_nil)))) (ss_seq (ss_drop (sn_call (sn_cons sn_var (sn_cons sn_var sn_nil)))) (ss_ret (sn_cb rc_tuple (sn_cons (sn_dat (sn_lc (si_enum (sn_cons (sn_op r2_ix sn_var sn_int) sn_nil)) (sg_tup (sgs_cons sg_name (sgs_cons sg_name sgs_nil))) (gk_tup (gks_cons (gk_name (by decide)) (gks_cons (gk_name (by decide)) gks_nil))) (sn_test (sn_op r2_eqU sn_var (sn_tup (sn_cons sn_var (sn_cons sn_var sn_nil))))) sn_var)) sn_nil))))))
theorem ok_between {P : Program} {w : World} {K : PySem.W.Frag} {mg : Str → Option Value} {base : Heap} {f : Addr} {fd : FuncData} (b_enumerate : mg "enumerate" = none) (b_tuple : mg "tuple" = none) {f_need_net : Addr} {fd_need_net : FuncData} (C_need_net : Cal P w K mg base "need_net" 6 ["net"] (spP 1 (runP 1 m_need_net)) f_need_net fd_need_net) {f_need_house : Addr} {fd_need_house : FuncData} (C_need_house : Cal P w K mg base "need_house" 1 ["net", "house"] (spP 2 (runP 2 m_need_house)) f_need_house fd_need_house) (F : FnP K "between" s_between f fd) : FnG P w K mg base CX0 7 f fd ["net", "source", "target"] (spP 3 (runP 5 m_between)) :=
  have nd := sc_between.nd
  def_pure F sc_between (fun cdv A outer s H E hg hr => PSs.nox ((pss_cons (ps_expr (pe_calC C_need_net hg hr (by decide) (by rfl) (pa_cons (pv 0) pa_nil))) (pss_cons (ps_expr (pe_calC C_need_house hg hr (by decide) (by rfl) (pa_cons (pv 0) (pa_cons (pv 1) pa_nil)))) (pss_cons (ps_expr (pe_calC C_need_house hg hr (by decide) (by rfl) (pa_cons (pv 0) (pa_cons (pv 2) pa_nil)))) (pss_one (ps_ret (pe_callTy call_tuple_of (by rfl) b_tuple boot_tuple (pa_cons (pe_lc (own := [("k", 3), ("wire", 4)]) (g := (gTup K 2 (gCons (gName 3) (gCons (gName 4) gNil)))) (tt := (tTest (tOp (rEqU K) (tVar 4) (tTup (tCons (tVar 1) (tCons (tVar 2) tNil)))))) rfl nd  (pi_enA (by rfl) b_enumerate (pa_cons (pe_ix (ix_A (hu64 hr)) (pv 0) pe_int (fun _ _ => rfl)) pa_nil)) (blkOk_by (N := N_between) (sc := defScope s_between) (by decide +kernel)) (fun _ _ _ _ _ => (pg_tup rfl (pgs_cons (pg_name (i := 3) nd rfl (Or.inl rfl)) (pgs_cons (pg_name (i := 4) nd rfl (Or.inl rfl)) pgs_nil)))) (fun _ _ _ _ _ => (pts_one (pt_cmpR (op_eqU (hu64 hr)) (pv 4) (pe_tup (pa_cons (pv 1) (pa_cons (pv 2) pa_nil))) (nomark _)))) (fun _ _ _ _ _ => (pv 3))) pa_nil))))))))) (ss_between K)
/-! _law_feed -/
abbrev s__law_feed : Stmt := top 25
abbrev N__law_feed : List Str := ["_law_script", "_law_cell"]
theorem sc__law_feed : FnScope N__law_feed ["_law_script"] (defScope s__law_feed) := ⟨rfl, rfl, rfl, by decide +kernel, rfl, by decide +kernel, by decide +kernel⟩
theorem ok__law_feed {P : Program} {w : World} {K : PySem.W.Frag} {mg : Str → Option Value} {base : Heap} {f : Addr} {fd : FuncData} (b_int : mg "int" = none) (F : FnP K "_law_feed" s__law_feed f fd) : FnG P w K mg base CX0 1 f fd ["_law_script"] (spFeed K) :=
  have nd := sc__law_feed.nd
  def_feed0 F sc__law_feed rfl fun cdv A outer s H E hg hr => PSs.nox (pss_one (ps_ret (pe_disp (pps_cons pe_str (pe_lc (own := [("_law_cell", 1)]) (g := gName 1) (tt := tYes) rfl nd (pi_list (pe_slice sl_list (pv 0) po_none (po_some pe_int))) (blkOk_by (N := N__law_feed) (sc := defScope s__law_feed) (by decide +kernel)) (fun _ _ _ _ _ => pg_name (i := 1) nd rfl (Or.inl rfl)) (fun _ _ _ _ _ => pts_nil) (fun _ _ _ _ _ => pe_callTy call_int1 (by rfl) b_int boot_int (pa_cons (pv 1) pa_nil))) (pps_cons pe_str pe_int (pps_cons pe_str pe_int (pps_cons pe_str pe_int pps_nil)))) rfl rfl (by simp) (by decide))))
/-! _law_draw -/
abbrev s__law_draw : Stmt := top 26
abbrev N__law_draw : List Str := ["_law_feed_here", "_law_many", "_law_cell", "_law_mixed", "_law_digit", "_law_k", "_law_cells"]
theorem sc__law_draw : FnScope N__law_draw ["_law_feed_here", "_law_many"] (defScope s__law_draw) := ⟨rfl, rfl, rfl, by decide +kernel, rfl, by decide +kernel, by decide +kernel⟩
def t__law_draw (K : PySem.W.Frag) : TS := (tSeq (sDPut (tVar 0) (tC (.str (Str.ofString "drawn"))) (tOp (rAddU K) (tOp (rIxA K) (tVar 0) (tC (.str (Str.ofString "drawn")))) (tC (.int 1)))) (tSeq (tIfS (tTest (tOp rGtU (tOp (rIxA K) (tVar 0) (tC (.str (Str.ofString "left")))) (tC (.int 0)))) (tSeq (tAsg (tOp rMod (tCB rIntA (tCons (tOp (rIxA K) (tVar 0) (tC (.str (Str.ofString "left")))) tNil)) (tVar 1)) (gName 4)) (tSeq (sDPut (tVar 0) (tC (.str (Str.ofString "left"))) (tOp rDiv (tOp (rIxA K) (tVar 0) (tC (.str (Str.ofString "left")))) (tVar 1))) (tRet (tVar 4)))) tNext) (tSeq (tPar 5 6 (tCons (tOp (rIxA K) (tVar 0) (tC (.str (Str.ofString "next")))) (tCons (tOp (rIxA K) (tVar 0) (tC (.str (Str.ofString "cells")))) tNil))) (tSeq (sDPut (tVar 0) (tC (.str (Str.ofString "next"))) (tOp (rAddU K) (tVar 5) (tC (.int 1)))) (tSeq (tAsg (tIf (tTest (tOp (rNeU K) (tVar 6) (tLst tNil))) (tOp (rIxA K) (tVar 6) (tOp rMod (tCB rIntA (tCons (tVar 5) tNil)) (tCB (rLenA K) (tCons (tVar 6) tNil)))) (tC (.int 7806))) (gName 2)) (tSeq (tIfS (tAnd (tTest (tOp rGeU (tVar 2) (tOp rPow (tC (.int 10)) (tC (.int 18))))) (tTest (tOp rLtU (tVar 5) (tCB (rLenA K) (tCons (tVar 6) tNil))))) (tSeq (sDPut (tVar 0) (tC (.str (Str.ofString "left"))) (tOp rDiv (tVar 2) (tVar 1))) (tRet (tOp rMod (tCB rIntA (tCons (tVar 2) tNil)) (tVar 1)))) tNext) (tSeq (tAsg (tOp rMod (tCB rIntA (tCons (tOp (rAddU K) (tOp (rAddU K) (tOp rMod (tCB rIntA (tCons (tVar 2) tNil)) (tC (.int 1000400237))) (tOp rMul (tC (.int 70594)) (tOp (rIxA K) (tVar 0) (tC (.str (Str.ofString "drawn")))))) (tC (.int 546))) tNil)) (tC (.int 2147390209))) (gName 3)) (tSeq (tAsg (tOp rMod (tCB rIntA (tCons (tOp (rAddU K) (tOp (rAddU K) (tOp rMul (tVar 3) (tVar 3)) (tOp rMul (tC (.int 958592)) (tOp (rIxA K) (tVar 0) (tC (.str (Str.ofString "drawn")))))) (tC (.int 714))) tNil)) (tC (.int 2147390281))) (gName 3)) (tRet (tOp rMod (tCB rIntA (tCons (tOp rDiv (tOp rMod (tCB rIntA (tCons (tOp (rAddU K) (tOp rMul (tVar 3) (tVar 3)) (tOp rMul (tC (.int 476)) (tVar 3))) tNil)) (tC (.int 2147390107))) (tC (.int 32))) tNil)) (tVar 1)))))))))))
def m__law_draw : SM := (mSeq (mPut (mOp gAddU (mOp gIx (mVar 0) (mC (.str (Str.ofString "drawn")))) (mC (.int 1))) (mVar 0) (mC (.str (Str.ofString "drawn")))) (mSeq (mIfS (mTest (mOp gGtU (mOp gIx (mVar 0) (mC (.str (Str.ofString "left")))) (mC (.int 0)))) (mSeq (mAsg (mOp gMod (mCB gInt (mCons (mOp gIx (mVar 0) (mC (.str (Str.ofString "left")))) mNil)) (mVar 1)) (mgName 4)) (mSeq (mPut (mOp gDiv (mOp gIx (mVar 0) (mC (.str (Str.ofString "left")))) (mVar 1)) (mVar 0) (mC (.str (Str.ofString "left")))) (mRet (mVar 4)))) mNext) (mSeq (mPar 5 6 (mCons (mOp gIx (mVar 0) (mC (.str (Str.ofString "next")))) (mCons (mOp gIx (mVar 0) (mC (.str (Str.ofString "cells")))) mNil))) (mSeq (mPut (mOp gAddU (mVar 5) (mC (.int 1))) (mVar 0) (mC (.str (Str.ofString "next")))) (mSeq (mAsg (mIf (mTest (mOp gNe (mVar 6) (mLst mNil))) (mOp gIx (mVar 6) (mOp gMod (mCB gInt (mCons (mVar 5) mNil)) (mCB gLen (mCons (mVar 6) mNil)))) (mC (.int 7806))) (mgName 2)) (mSeq (mIfS (mAnd (mTest (mOp gGeU (mVar 2) (mOp gPow (mC (.int 10)) (mC (.int 18))))) (mTest (mOp gLtU (mVar 5) (mCB gLen (mCons (mVar 6) mNil))))) (mSeq (mPut (mOp gDiv (mVar 2) (mVar 1)) (mVar 0) (mC (.str (Str.ofString "left")))) (mRet (mOp gMod (mCB gInt (mCons (mVar 2) mNil)) (mVar 1)))) mNext) (mSeq (mAsg (mOp gMod (mCB gInt (mCons (mOp gAddU (mOp gAddU (mOp gMod (mCB gInt (mCons (mVar 2) mNil)) (mC (.int 1000400237))) (mOp gMul (mC (.int 70594)) (mOp gIx (mVar 0) (mC (.str (Str.ofString "drawn")))))) (mC (.int 546))) mNil)) (mC (.int 2147390209))) (mgName 3)) (mSeq (mAsg (mOp gMod (mCB gInt (mCons (mOp gAddU (mOp gAddU (mOp gMul (mVar 3) (mVar 3)) (mOp gMul (mC (.int 958592)) (mOp gIx (mVar 0) (mC (.str (Str.ofString "drawn")))))) (mC (.int 714))) mNil)) (mC (.int 2147390281))) (mgName 3)) (mRet (mOp gMod (mCB gInt (mCons (mOp gDiv (mOp gMod (mCB gInt (mCons (mOp gAddU (mOp gMul (mVar 3) (mVar 3)) (mOp gMul (mC (.int 476)) (mVar 3))) mNil)) (mC (.int 2147390107))) (mC (.int 32))) mNil)) (mVar 1)))))))))))
theorem ss__law_draw (K : PySem.W.Frag) : SnS (t__law_draw K) m__law_draw := (ss_seq (ss_put (sn_op r2_addU (sn_op r2_ix sn_var sn_str) sn_int) sn_var sn_str) (ss_seq (ss_if (sn_test (sn_op r2_gtU (sn_op r2_ix sn_var sn_str) sn_int)) (ss_seq (ss_asg (sn_op r2_mod (sn_cb rc_int (sn_cons (sn_op r2_ix sn_var sn_str) sn_nil)) sn_var) sg_name) (ss_seq (ss_put (sn_op r2_div (sn_op r2_ix sn_var sn_str) sn_var) sn_var sn_str) (ss_ret sn_var))) ss_next) (ss_seq (ss_par (sn_cons (sn_op r2_ix sn_var sn_str) (sn_cons (sn_op r2_ix sn_var sn_str) sn_nil))) (ss_seq (ss_put (sn_op r2_addU sn_var sn_int) sn_var sn_str) (ss_seq (ss_asg (sn_if (sn_test (sn_op r2_neU sn_var (sn_lst sn_nil))) (sn_op r2_ix sn_var (sn_op r2_mod (sn_cb rc_int (sn_cons sn_var sn_nil)) (sn_cb rc_len (sn_cons sn_var sn_nil)))) sn_int) sg_name) (ss_seq (ss_if (sn_and (sn_test (sn_op r2_geU sn_var (sn_op r2_pow sn_int sn_int))) (sn_test (sn_op r2_ltU sn_var (sn_cb rc_len (sn_cons sn_var sn_nil))))) (ss_seq (ss_put (sn_op r2_div sn_var sn_var) sn_var sn_str) (ss_ret (sn_op r2_mod (sn_cb rc_int (sn_cons sn_var sn_nil)) sn_var))) ss_next) (ss_seq (ss_asg (sn_op r2_mod (sn_cb rc_int (sn_cons (sn_op r2_addU (sn_op r2_addU (sn_op r2_mod (sn_cb rc_int (sn_cons sn_var sn_nil)) sn_int) (sn_op r2_mul sn_int (sn_op r2_ix sn_var sn_str))) sn_int) sn_nil)) sn_int) sg_name) (ss_seq (ss_asg (sn_op r2_mod (sn_cb rc_int (sn_cons (sn_op r2_addU (sn_op r2_addU (sn_op r2_mul sn_var sn_var) (sn_op r2_mul sn_int (sn_op r2_ix sn_var sn_str))) sn_int) sn_nil)) sn_int) sg_name) (ss_ret (sn_op r2_mod (sn_cb rc_int (sn_cons (sn_op r2_div (sn_op r2_mod (sn_cb rc_int (sn_cons (sn_op r2_addU (sn_op r2_mul sn_var sn_var) (sn_op r2_mul sn_int sn_var)) sn_nil)) sn_int) sn_int) sn_nil)) sn_var))))))))))
theorem ok__law_draw {P : Program} {w : World} {K : PySem.W.Frag} {mg : Str → Option Value} {base : Heap} {f : Addr} {fd : FuncData} (b_int : mg "int" = none) (b_len : mg "len" = none) (F : FnP K "_law_draw" s__law_draw f fd) : FnG P w K mg base CX0 1 f fd ["_law_feed_here", "_law_many"] (spF 2 (runF 7 m__law_draw)) :=
  have nd := sc__law_draw.nd
  def_feed F sc__law_draw (fun cdv A outer s H E hg hr => PSs.nox ((pss_cons (ps_dput (hu1 hr) (pv 0) pe_str (pe_op op_addU (pe_ix (ix_A (hu64 hr)) (pv 0) pe_str (fun _ _ => rfl)) pe_int) rfl) (pss_cons (ps_if (pt_cmpR op_gtU (pe_ix (ix_A (hu64 hr)) (pv 0) pe_str (fun _ _ => rfl)) pe_int (nomark _)) (pss_cons (ps_set (i := 4) nd rfl (Or.inl rfl) (pe_op op_mod (pe_callTy call_int1 (by rfl) b_int boot_int (pa_cons (pe_ix (ix_A (hu64 hr)) (pv 0) pe_str (fun _ _ => rfl)) pa_nil)) (pv 1))) (pss_cons (ps_dput (hu1 hr) (pv 0) pe_str (pe_op op_fdiv (pe_ix (ix_A (hu64 hr)) (pv 0) pe_str (fun _ _ => rfl)) (pv 1)) rfl) (pss_one (ps_ret (pv 4))))) pss_nil) (pss_cons (ps_par (i := 5) (j := 6) rfl nd rfl rfl (by decide) rfl rfl (pa_cons (pe_ix (ix_A (hu64 hr)) (pv 0) pe_str (fun _ _ => rfl)) (pa_cons (pe_ix (ix_A (hu64 hr)) (pv 0) pe_str (fun _ _ => rfl)) pa_nil)) (by rfl)) (pss_cons (ps_dput (hu1 hr) (pv 0) pe_str (pe_op op_addU (pv 5) pe_int) rfl) (pss_cons (ps_set (i := 2) nd rfl (Or.inl rfl) (pe_ifExp (pt_cmpR (op_neU (hu64 hr)) (pv 6) (pe_lst pa_nil) (nomark _)) (pe_ix (ix_A (hu64 hr)) (pv 6) (pe_op op_mod (pe_callTy call_int1 (by rfl) b_int boot_int (pa_cons (pv 5) pa_nil)) (pe_callB call_lenA (by rfl) b_len boot_len (pa_cons (pv 6) pa_nil))) (fun _ _ => rfl)) pe_int)) (pss_cons (ps_if (pw_and (pt_cmpR op_geU (pv 2) (pe_op op_pow pe_int pe_int) (nomark _)) (pw_and1 (pt_cmpR op_ltU (pv 5) (pe_callB call_lenA (by rfl) b_len boot_len (pa_cons (pv 6) pa_nil)) (nomark _)))).pt (pss_cons (ps_dput (hu1 hr) (pv 0) pe_str (pe_op op_fdiv (pv 2) (pv 1)) rfl) (pss_one (ps_ret (pe_op op_mod (pe_callTy call_int1 (by rfl) b_int boot_int (pa_cons (pv 2) pa_nil)) (pv 1))))) pss_nil) (pss_cons (ps_set (i := 3) nd rfl (Or.inl rfl) (pe_op op_mod (pe_callTy call_int1 (by rfl) b_int boot_int (pa_cons (pe_op op_addU (pe_op op_addU (pe_op op_mod (pe_callTy call_int1 (by rfl) b_int boot_int (pa_cons (pv 2) pa_nil)) pe_int) (pe_op op_mul pe_int (pe_ix (ix_A (hu64 hr)) (pv 0) pe_str (fun _ _ => rfl)))) pe_int) pa_nil)) pe_int)) (pss_cons (ps_set (i := 3) nd rfl (Or.inl rfl) (pe_op op_mod (pe_callTy call_int1 (by rfl) b_int boot_int (pa_cons (pe_op op_addU (pe_op op_addU (pe_op op_mul (pv 3) (pv 3)) (pe_op op_mul pe_int (pe_ix (ix_A (hu64 hr)) (pv 0) pe_str (fun _ _ => rfl)))) pe_int) pa_nil)) pe_int)) (pss_one (ps_ret (pe_op op_mod (pe_callTy call_int1 (by rfl) b_int boot_int (pa_cons (pe_op op_fdiv (pe_op op_mod (pe_callTy call_int1 (by rfl) b_int boot_int (pa_cons (pe_op op_addU (pe_op op_mul (pv 3) (pv 3)) (pe_op op_mul pe_int (pv 3))) pa_nil)) pe_int) pe_int) pa_nil)) (pv 1)))))))))))))) (ss__law_draw K)
/-! _law_any -/
abbrev s__law_any : Stmt := top 27
abbrev N__law_any : List Str := ["_law_feed_here", "_law_some"]
theorem sc__law_any : FnScope N__law_any ["_law_feed_here", "_law_some"] (defScope s__law_any) := ⟨rfl, rfl, rfl, by decide +kernel, rfl, by decide +kernel, by decide +kernel⟩
def t__law_any (K : PySem.W.Frag) : TS := (tRet (tOp (rIxA K) (tVar 1) (tCall (spF 2 (runF 7 m__law_draw)) [] E0 (tCons (tVar 0) (tCons (tCB (rLenA K) (tCons (tVar 1) tNil)) tNil)))))
def m__law_any : SM := (mRet (mOp gIx (mVar 1) (mCallF 2 (runF 7 m__law_draw) (mCons (mVar 0) (mCons (mCB gLen (mCons (mVar 1) mNil)) mNil)))))
theorem ss__law_any (K : PySem.W.Frag) : SnS (t__law_any K) m__law_any := (ss_ret (sn_op r2_ix sn_var (sn_callF (sn_cons sn_var (sn_cons (sn_cb rc_len (sn_cons sn_var sn_nil)) sn_nil)))))
theorem ok__law_any {P : Program} {w : World} {K : PySem.W.Frag} {mg : Str → Option Value} {base : Heap} {f : Addr} {fd : FuncData} (b_len : mg "len" = none) {f__law_draw : Addr} {fd__law_draw : FuncData} (C__law_draw : Cal P w K mg base "_law_draw" 1 ["_law_feed_here", "_law_many"] (spF 2 (runF 7 m__law_draw)) f__law_draw fd__law_draw) (F : FnP K "_law_any" s__law_any f fd) : FnG P w K mg base CX0 2 f fd ["_law_feed_here", "_law_some"] (spF 2 (runF 2 m__law_any)) :=
  have nd := sc__law_any.nd
  def_feed F sc__law_any (fun cdv A outer s H E hg hr => PSs.nox ((pss_one (ps_ret (pe_ix (ix_A (hu64 hr)) (pv 1) (pe_calC C__law_draw hg hr (by decide) (by rfl) (pa_cons (pv 0) (pa_cons (pe_callB call_lenA (by rfl) b_len boot_len (pa_cons (pv 1) pa_nil)) pa_nil))) (fun _ _ => rfl)))))) (ss__law_any K)
/-! _law_same -/
abbrev s__law_same : Stmt := top 28
abbrev N__law_same : List Str := ["_law_told", "_law_due"]
theorem sc__law_same : FnScope N__law_same ["_law_told", "_law_due"] (defScope s__law_same) := ⟨rfl, rfl, rfl, by decide +kernel, rfl, by decide +kernel, by decide +kernel⟩
def t__law_same (K : PySem.W.Frag) : TS := (tRet (tOp (rEqU K) (tCB (rRepr K) (tCons (tVar 0) tNil)) (tCB (rRepr K) (tCons (tVar 1) tNil))))
def m__law_same : SM := (mRet (mOp gEq (mCB gRepr (mCons (mVar 0) mNil)) (mCB gRepr (mCons (mVar 1) mNil))))
theorem ss__law_same (K : PySem.W.Frag) : SnS (t__law_same K) m__law_same := (ss_ret (sn_op r2_eqU (sn_cb rc_repr (sn_cons sn_var sn_nil)) (sn_cb rc_repr (sn_cons sn_var sn_nil))))
theorem ok__law_same {P : Program} {w : World} {K : PySem.W.Frag} {mg : Str → Option Value} {base : Heap} {f : Addr} {fd : FuncData} (b_repr : mg "repr" = none) (F : FnP K "_law_same" s__law_same f fd) : FnG P w K mg base CX0 1 f fd ["_law_told", "_law_due"] (spP 2 (runP 2 m__law_same)) :=
  have nd := sc__law_same.nd
  def_pure F sc__law_same (fun cdv A outer s H E hg hr => PSs.nox ((pss_one (ps_ret (pe_cmpR (op_eqU (hu64 hr)) (pe_callB (call_repr hg (hu64 hr)) (by rfl) b_repr boot_repr (pa_cons (pv 0) pa_nil)) (pe_callB (call_repr hg (hu64 hr)) (by rfl) b_repr boot_repr (pa_cons (pv 1) pa_nil)) (nomark _)))))) (ss__law_same K)
/-! _law_names -/
abbrev s__law_names : Stmt := top 29
abbrev N__law_names : List Str := ["_law_feed_here", "_law_some", "_law_names_here", "_law_k"]
theorem sc__law_names : FnScope N__law_names ["_law_feed_here"] (defScope s__law_names) := ⟨rfl, rfl, rfl, by decide +kernel, rfl, by decide +kernel, by decide +kernel⟩
def t__law_names (K : PySem.W.Frag) : TS := (tSeq (tAsg (tLst (tCons (tLst (tCons (tC (.str (Str.ofString "a"))) (tCons (tC (.str (Str.ofString "b"))) (tCons (tC (.str (Str.ofString "c"))) (tCons (tC (.str (Str.ofString "d"))) (tCons (tC (.str (Str.ofString "e"))) (tCons (tC (.str (Str.ofString "f"))) (tCons (tC (.str (Str.ofString "g"))) (tCons (tC (.str (Str.ofString "h"))) tNil))))))))) (tCons (tLst (tCons (tC (.str (Str.ofString "houses"))) (tCons (tC (.str (Str.ofString "none"))) (tCons (tC (.str (Str.ofString "ab"))) (tCons (tC (.str (Str.ofString "aba"))) (tCons (tC (.str (Str.ofString "b"))) (tCons (tC (.str (Str.ofString "ba"))) (tCons (tC (.str (Str.ofString "abc"))) (tCons (tC (.str (Str.ofString "lay"))) tNil))))))))) tNil))) (gName 1)) (tSeq (tAsg (tOp (rAddU K) (tVar 1) (tLst (tCons (tLst (tCons (tC (.str (Str.ofString "zzzzzzzz"))) (tCons (tC (.str (Str.ofString "zzzzzzza"))) (tCons (tC (.str (Str.ofString "z"))) (tCons (tC (.str (Str.ofString "zz"))) (tCons (tC (.str (Str.ofString "y"))) (tCons (tC (.str (Str.ofString "yz"))) (tCons (tC (.str (Str.ofString "x"))) (tCons (tC (.str (Str.ofString "give"))) tNil))))))))) tNil))) (gName 1)) (tSeq (tPar 2 3 (tCons (tCall (spF 2 (runF 2 m__law_any)) [] E0 (tCons (tVar 0) (tCons (tVar 1) tNil))) (tCons (tCall (spF 2 (runF 7 m__law_draw)) [] E0 (tCons (tVar 0) (tCons (tC (.int 8)) tNil))) tNil))) (tRet (tOp (rAddU K) (tSl (rSlU K) (tVar 2) (tPart (tVar 3)) tNoPart) (tSl (rSlU K) (tVar 2) tNoPart (tPart (tVar 3))))))))
def m__law_names : SM := (mSeq (mAsg (mLst (mCons (mLst (mCons (mC (.str (Str.ofString "a"))) (mCons (mC (.str (Str.ofString "b"))) (mCons (mC (.str (Str.ofString "c"))) (mCons (mC (.str (Str.ofString "d"))) (mCons (mC (.str (Str.ofString "e"))) (mCons (mC (.str (Str.ofString "f"))) (mCons (mC (.str (Str.ofString "g"))) (mCons (mC (.str (Str.ofString "h"))) mNil))))))))) (mCons (mLst (mCons (mC (.str (Str.ofString "houses"))) (mCons (mC (.str (Str.ofString "none"))) (mCons (mC (.str (Str.ofString "ab"))) (mCons (mC (.str (Str.ofString "aba"))) (mCons (mC (.str (Str.ofString "b"))) (mCons (mC (.str (Str.ofString "ba"))) (mCons (mC (.str (Str.ofString "abc"))) (mCons (mC (.str (Str.ofString "lay"))) mNil))))))))) mNil))) (mgName 1)) (mSeq (mAsg (mOp gAddU (mVar 1) (mLst (mCons (mLst (mCons (mC (.str (Str.ofString "zzzzzzzz"))) (mCons (mC (.str (Str.ofString "zzzzzzza"))) (mCons (mC (.str (Str.ofString "z"))) (mCons (mC (.str (Str.ofString "zz"))) (mCons (mC (.str (Str.ofString "y"))) (mCons (mC (.str (Str.ofString "yz"))) (mCons (mC (.str (Str.ofString "x"))) (mCons (mC (.str (Str.ofString "give"))) mNil))))))))) mNil))) (mgName 1)) (mSeq (mPar 2 3 (mCons (mCallF 2 (runF 2 m__law_any) (mCons (mVar 0) (mCons (mVar 1) mNil))) (mCons (mCallF 2 (runF 7 m__law_draw) (mCons (mVar 0) (mCons (mC (.int 8)) mNil))) mNil))) (mRet (mOp gAddU (mSl gSl (mVar 2) (mPart (mVar 3)) mNoPart) (mSl gSl (mVar 2) mNoPart (mPart (mVar 3))))))))
theorem ss__law_names (K : PySem.W.Frag) : SnS (t__law_names K) m__law_names := (ss_seq (ss_asg (sn_lst (sn_cons (sn_lst (sn_cons sn_str (sn_cons sn_str (sn_cons sn_str (sn_cons sn_str (sn_cons sn_str (sn_cons sn_str (sn_cons sn_str (sn_cons sn_str sn_nil))))))))) (sn_cons (sn_lst (sn_cons sn_str (sn_cons sn_str (sn_cons sn_str (sn_cons sn_str (sn_cons sn_str (sn_cons sn_str (sn_cons sn_str (sn_cons sn_str sn_nil))))))))) sn_nil))) sg_name) (ss_seq (ss_asg (sn_op r2_addU sn_var (sn_lst (sn_cons (sn_lst (sn_cons sn_str (sn_cons sn_str (sn_cons sn_str (sn_cons sn_str (sn_cons sn_str (sn_cons sn_str (sn_cons sn_str (sn_cons sn_str sn_nil))))))))) sn_nil))) sg_name) (ss_seq (ss_par (sn_cons (sn_callF (sn_cons sn_var (sn_cons sn_var sn_nil))) (sn_cons (sn_callF (sn_cons sn_var (sn_cons sn_int sn_nil))) sn_nil))) (ss_ret (sn_op r2_addU (sn_sl rs_U sn_var (sn_part sn_var) sn_nopart) (sn_sl rs_U sn_var sn_nopart (sn_part sn_var)))))))
theorem ok__law_names {P : Program} {w : World} {K : PySem.W.Frag} {mg : Str → Option Value} {base : Heap} {f : Addr} {fd : FuncData} {f__law_draw : Addr} {fd__law_draw : FuncData} (C__law_draw : Cal P w K mg base "_law_draw" 1 ["_law_feed_here", "_law_many"] (spF 2 (runF 7 m__law_draw)) f__law_draw fd__law_draw) {f__law_any : Addr} {fd__law_any : FuncData} (C__law_any : Cal P w K mg base "_law_any" 2 ["_law_feed_here", "_law_some"] (spF 2 (runF 2 m__law_any)) f__law_any fd__law_any) (F : FnP K "_law_names" s__law_names f fd) : FnG P w K mg base CX0 3 f fd ["_law_feed_here"] (spF 1 (runF 4 m__law_names)) :=
  have nd := sc__law_names.nd
  def_feed F sc__law_names (fun cdv A outer s H E hg hr => PSs.nox ((pss_cons (ps_set (i := 1) nd rfl (Or.inl rfl) (pe_lst (pa_cons (pe_lst (pa_cons pe_str (pa_cons pe_str (pa_cons pe_str (pa_cons pe_str (pa_cons pe_str (pa_cons pe_str (pa_cons pe_str (pa_cons pe_str pa_nil))))))))) (pa_cons (pe_lst (pa_cons pe_str (pa_cons pe_str (pa_cons pe_str (pa_cons pe_str (pa_cons pe_str (pa_cons pe_str (pa_cons pe_str (pa_cons pe_str pa_nil))))))))) pa_nil)))) (pss_cons (ps_set (i := 1) nd rfl (Or.inl rfl) (pe_op op_addU (pv 1) (pe_lst (pa_cons (pe_lst (pa_cons pe_str (pa_cons pe_str (pa_cons pe_str (pa_cons pe_str (pa_cons pe_str (pa_cons pe_str (pa_cons pe_str (pa_cons pe_str pa_nil))))))))) pa_nil)))) (pss_cons (ps_par (i := 2) (j := 3) rfl nd rfl rfl (by decide) rfl rfl (pa_cons (pe_calC C__law_any hg hr (by decide) (by rfl) (pa_cons (pv 0) (pa_cons (pv 1) pa_nil))) (pa_cons (pe_calC C__law_draw hg hr (by decide) (by rfl) (pa_cons (pv 0) (pa_cons pe_int pa_nil))) pa_nil)) (by rfl)) (pss_one (ps_ret (pe_op op_addU (pe_slice sl_U (pv 2) (po_some (pv 3)) po_none) (pe_slice sl_U (pv 2) po_none (po_some (pv 3))))))))))) (ss__law_names K)
/-! _law_web -/
abbrev s__law_web : Stmt := top 30
abbrev N__law_web : List Str := ["_law_feed_here", "_law_most", "_law_many", "_law_lap", "_law_names_here", "_law_found", "_law_here", "_law_there", "_law_label"]
theorem sc__law_web : FnScope N__law_web ["_law_feed_here", "_law_most", "_law_many"] (defScope s__law_web) := ⟨rfl, rfl, rfl, by decide +kernel, rfl, by decide +kernel, by decide +kernel⟩
def t__law_web (K : PySem.W.Frag) : TS := (tSeq (tPar 4 5 (tCons (tCB (rTupA K) (tCons (tCB (rSortA K) (tCons (tSl (rSlU K) (tCall (spF 1 (runF 4 m__law_names)) [] E0 (tCons (tVar 0) tNil)) tNoPart (tPart (tOp (rAddU K) (tC (.int 1)) (tCall (spF 2 (runF 7 m__law_draw)) [] E0 (tCons (tVar 0) (tCons (tVar 1) tNil)))))) tNil)) tNil)) (tCons (tLst tNil) tNil))) (tSeq (tFor (iRng1 (tCons (tIf (tTest (tOp rGtU (tCB (rLenA K) (tCons (tVar 4) tNil)) (tC (.int 1)))) (tCall (spF 2 (runF 7 m__law_draw)) [] E0 (tCons (tVar 0) (tCons (tOp (rAddU K) (tVar 2) (tC (.int 1))) tNil))) (tC (.int 0))) tNil)) (gName 3) (tSeq (tAsg (tCall (spF 2 (runF 2 m__law_any)) [] E0 (tCons (tVar 0) (tCons (tVar 4) tNil))) (gName 6)) (tSeq (tAsg (tCall (spF 2 (runF 2 m__law_any)) [] E0 (tCons (tVar 0) (tCons (tLc (iAny K (tVar 4)) (gName 8) (tTest (tOp (rNeU K) (tVar 8) (tVar 6))) (tVar 8) [8]) tNil))) (gName 7)) (tSeq (tDrop (tBM K "list" rAppend (tVar 5) (tCons (tTup (tCons (tVar 6) (tCons (tVar 7) tNil))) tNil))) (tIfS (tTest (tOp (rEqU K) (tCall (spF 2 (runF 7 m__law_draw)) [] E0 (tCons (tVar 0) (tCons (tC (.int 5)) tNil))) (tC (.int 0)))) (tDrop (tBM K "list" rAppend (tVar 5) (tCons (tTup (tCons (tVar 6) (tCons (tVar 7) tNil))) tNil))) tNext))))) (tRet (tTup (tCons (tVar 4) (tCons (tCB (rTupA K) (tCons (tVar 5) tNil)) tNil))))))
def m__law_web : SM := (mSeq (mParO 4 5 (mCB gTuple (mCons (mCB gSorted (mCons (mSl gSl (mCallF 1 (runF 4 m__law_names) (mCons (mVar 0) mNil)) mNoPart (mPart (mOp gAddU (mC (.int 1)) (mCallF 2 (runF 7 m__law_draw) (mCons (mVar 0) (mCons (mVar 1) mNil)))))) mNil)) mNil)) (mLstN mNil)) (mSeq (mFor (mRange (mCons (mIf (mTest (mOp gGtU (mCB gLen (mCons (mVar 4) mNil)) (mC (.int 1)))) (mCallF 2 (runF 7 m__law_draw) (mCons (mVar 0) (mCons (mOp gAddU (mVar 2) (mC (.int 1))) mNil))) (mC (.int 0))) mNil)) (mgName 3) (mSeq (mAsg (mCallF 2 (runF 2 m__law_any) (mCons (mVar 0) (mCons (mVar 4) mNil))) (mgName 6)) (mSeq (mAsg (mCallF 2 (runF 2 m__law_any) (mCons (mVar 0) (mCons (mDat (mLc (mAnyI (mVar 4)) (mgName 8) (mTest (mOp gNe (mVar 8) (mVar 6))) (mVar 8) [8])) mNil))) (mgName 7)) (mSeq (mApp (mVar 5) (mTup (mCons (mVar 6) (mCons (mVar 7) mNil)))) (mIfS (mTest (mOp gEq (mCallF 2 (runF 7 m__law_draw) (mCons (mVar 0) (mCons (mC (.int 5)) mNil))) (mC (.int 0)))) (mApp (mVar 5) (mTup (mCons (mVar 6) (mCons (mVar 7) mNil)))) mNext))))) (mRet (mTup (mCons (mVar 4) (mCons (mCB gTuple (mCons (mVar 5) mNil)) mNil))))))
theorem ss__law_web (K : PySem.W.Frag) : SnS (t__law_web K) m__law_web := (ss_seq (ss_parO (sn_cb rc_tuple (sn_cons (sn_cb rc_sorted (sn_cons (sn_sl rs_U (sn_callF (sn_cons sn_var sn_nil)) sn_nopart (sn_part (sn_op r2_addU sn_int (sn_callF (sn_cons sn_var (sn_cons sn_var sn_nil)))))) sn_nil)) sn_nil)) (sn_lstN sn_nil)) (ss_seq (ss_for (si_range1 (sn_cons (sn_if (sn_test (sn_op r2_gtU (sn_cb rc_len (sn_cons sn_var sn_nil)) sn_int)) (sn_callF (sn_cons sn_var (sn_cons (sn_op r2_addU sn_var sn_int) sn_nil))) sn_int) sn_nil)) sg_name (ss_seq (ss_asg (sn_callF (sn_cons sn_var (sn_cons sn_var sn_nil))) sg_name) (ss_seq (ss_asg (sn_callF (sn_cons sn_var (sn_cons (sn_dat (sn_lc (si_any sn_var) sg_name (gk_name (by decide)) (sn_test (sn_op r2_neU sn_var sn_var)) sn_var)) sn_nil))) sg_name) (ss_seq (ss_app sn_var (sn_tup (sn_cons sn_var (sn_cons sn_var sn_nil)))) (ss_if (sn_test (sn_op r2_eqU (sn_callF (sn_cons sn_var (sn_cons sn_int sn_nil))) sn_int)) (ss_app sn_var (sn_tup (sn_cons sn_var (sn_cons sn_var sn_nil)))) ss_next))))) (ss_ret (sn_tup (sn_cons sn_var (sn_cons (sn_cb rc_tuple (sn_cons sn_var sn_nil)) sn_nil))))))
theorem ok__law_web {P : Program} {w : World} {K : PySem.W.Frag} {mg : Str → Option Value} {base : Heap} {f : Addr} {fd : FuncData} (b_len : mg "len" = none) (b_range : mg "range" = none) (b_sorted : mg "sorted" = none) (b_tuple : mg "tuple" = none) {f__law_draw : Addr} {fd__law_draw : FuncData} (C__law_draw : Cal P w K mg base "_law_draw" 1 ["_law_feed_here", "_law_many"] (spF 2 (runF 7 m__law_draw)) f__law_draw fd__law_draw) {f__law_any : Addr} {fd__law_any : FuncData} (C__law_any : Cal P w K mg base "_law_any" 2 ["_law_feed_here", "_law_some"] (spF 2 (runF 2 m__law_any)) f__law_any fd__law_any) {f__law_names : Addr} {fd__law_names : FuncData} (C__law_names : Cal P w K mg base "_law_names" 3 ["_law_feed_here"] (spF 1 (runF 4 m__law_names)) f__law_names fd__law_names) (F : FnP K "_law_web" s__law_web f fd) : FnG P w K mg base CX0 4 f fd ["_law_feed_here", "_law_most", "_law_many"] (spF 3 (runF 9 m__law_web)) :=
  have nd := sc__law_web.nd
  def_feed F sc__law_web (fun cdv A outer s H E hg hr => PSs.nox ((pss_cons (ps_par (i := 4) (j := 5) rfl nd rfl rfl (by decide) rfl rfl (pa_cons (pe_callTy call_tuple_of (by rfl) b_tuple boot_tuple (pa_cons (pe_callB cr_sortA (by rfl) b_sorted boot_sorted (pa_cons (pe_slice sl_U (pe_calC C__law_names hg hr (by decide) (by rfl) (pa_cons (pv 0) pa_nil)) po_none (po_some (pe_op op_addU pe_int (pe_calC C__law_draw hg hr (by decide) (by rfl) (pa_cons (pv 0) (pa_cons (pv 1) pa_nil)))))) pa_nil)) pa_nil)) (pa_cons (pe_lst pa_nil) pa_nil)) (by rfl)) (pss_cons (ps_for PassesOwn.never rfl (pi_range1 (by rfl) b_range (pa_cons (pe_ifExp (pt_cmpR op_gtU (pe_callB call_lenA (by rfl) b_len boot_len (pa_cons (pv 4) pa_nil)) pe_int (nomark _)) (pe_calC C__law_draw hg hr (by decide) (by rfl) (pa_cons (pv 0) (pa_cons (pe_op op_addU (pv 2) pe_int) pa_nil))) pe_int) pa_nil)) (pg_name (i := 3) nd rfl (Or.inl rfl)) (pss_cons (ps_set (i := 6) nd rfl (Or.inr rfl) (pe_calC C__law_any hg hr (by decide) (by rfl) (pa_cons (pv 0) (pa_cons (pv 4) pa_nil)))) (pss_cons (ps_set (i := 7) nd rfl (Or.inl rfl) (pe_calC C__law_any hg hr (by decide) (by rfl) (pa_cons (pv 0) (pa_cons (pe_lc (own := [("_law_label", 8)]) (g := (gName 8)) (tt := (tTest (tOp (rNeU K) (tVar 8) (tVar 6)))) rfl nd  (pi_any (pv 4)) (blkOk_by (N := N__law_web) (sc := defScope s__law_web) (by decide +kernel)) (fun _ _ _ _ _ => (pg_name (i := 8) nd rfl (Or.inl rfl))) (fun _ _ _ _ _ => (pts_one (pt_cmpR (op_neU (hu64 hr)) (pv 8) (pv 6) (nomark _)))) (fun _ _ _ _ _ => (pv 8))) pa_nil)))) (pss_cons (ps_expr (pe_bm PySem.F.plainAttrs_list PySem.F.slot_list_append PySem.F.type_list_append mt_append (pv 5) (pa_cons (pe_tup (pa_cons (pv 6) (pa_cons (pv 7) pa_nil))) pa_nil))) (pss_one (ps_if (pt_cmpR (op_eqU (hu64 hr)) (pe_calC C__law_draw hg hr (by decide) (by rfl) (pa_cons (pv 0) (pa_cons pe_int pa_nil))) pe_int (nomark _)) (pss_one (ps_expr (pe_bm PySem.F.plainAttrs_list PySem.F.slot_list_append PySem.F.type_list_append mt_append (pv 5) (pa_cons (pe_tup (pa_cons (pv 6) (pa_cons (pv 7) pa_nil))) pa_nil)))) pss_nil)))))) (pss_one (ps_ret (pe_tup (pa_cons (pv 4) (pa_cons (pe_callTy call_tuple_of (by rfl) b_tuple boot_tuple (pa_cons (pv 5) pa_nil)) pa_nil))))))))) (ss__law_web K)
/-! _law_sets -/
abbrev s__law_sets : Stmt := top 31
abbrev N__law_sets : List Str := ["_law_names_here", "_law_found", "_law_name_in", "_law_some"]
theorem sc__law_sets : FnScope N__law_sets ["_law_names_here"] (defScope s__law_sets) := ⟨rfl, rfl, rfl, by decide +kernel, rfl, by decide +kernel, by decide +kernel⟩
def t__law_sets (K : PySem.W.Frag) : TS := (tSeq (tAsg (tLst (tCons (tTup tNil) tNil)) (gName 1)) (tSeq (tFor (iAny K (tVar 0)) (gName 2) (tAsg (tOp (rAddU K) (tVar 1) (tLc (iAny K (tVar 1)) (gName 3) tYes (tOp (rAddU K) (tVar 3) (tTup (tCons (tVar 2) tNil))) [3])) (gName 1))) (tRet (tSl (rSlU K) (tVar 1) (tPart (tC (.int 1))) tNoPart))))
def m__law_sets : SM := (mSeq (mAsg (mLst (mCons (mTup mNil) mNil)) (mgName 1)) (mSeq (mFor (mAnyI (mVar 0)) (mgName 2) (mAsg (mOp gAddU (mVar 1) (mDat (mLc (mAnyI (mVar 1)) (mgName 3) mYes (mOp gAddU (mVar 3) (mTup (mCons (mVar 2) mNil))) [3]))) (mgName 1))) (mRet (mSl gSl (mVar 1) (mPart (mC (.int 1))) mNoPart))))
theorem ss__law_sets (K : PySem.W.Frag) : SnS (t__law_sets K) m__law_sets := (ss_seq (ss_asg (sn_lst (sn_cons (sn_tup sn_nil) sn_nil)) sg_name) (ss_seq (ss_for (si_any sn_var) sg_name (ss_asg (sn_op r2_addU sn_var (sn_dat (sn_lc (si_any sn_var) sg_name (gk_name (by decide)) sn_yes (sn_op r2_addU sn_var (sn_tup (sn_cons sn_var sn_nil)))))) sg_name)) (ss_ret (sn_sl rs_U sn_var (sn_part sn_int) sn_nopart))))
theorem ok__law_sets {P : Program} {w : World} {K : PySem.W.Frag} {mg : Str → Option Value} {base : Heap} {f : Addr} {fd : FuncData} (F : FnP K "_law_sets" s__law_sets f fd) : FnG P w K mg base CX0 1 f fd ["_law_names_here"] (spP 1 (runP 4 m__law_sets)) :=
  have nd := sc__law_sets.nd
  def_pure F sc__law_sets (fun cdv A outer s H E hg hr => PSs.nox ((pss_cons (ps_set (i := 1) nd rfl (Or.inl rfl) (pe_lst (pa_cons (pe_tup pa_nil) pa_nil))) (pss_cons (ps_for PassesOwn.never rfl (pi_any (pv 0)) (pg_name (i := 2) nd rfl (Or.inr rfl)) (pss_one (ps_set (i := 1) nd rfl (Or.inl rfl) (pe_op op_addU (pv 1) (pe_lc (own := [("_law_some", 3)]) (g := (gName 3)) (tt := tYes) rfl nd  (pi_any (pv 1)) (blkOk_by (N := N__law_sets) (sc := defScope s__law_sets) (by decide +kernel)) (fun _ _ _ _ _ => (pg_name (i := 3) nd rfl (Or.inl rfl))) (fun _ _ _ _ _ => pts_nil) (fun _ _ _ _ _ => (pe_op op_addU (pv 3) (pe_tup (pa_cons (pv 2) pa_nil))))))))) (pss_one (ps_ret (pe_slice sl_U (pv 1) (po_some pe_int) po_none))))))) (ss__law_sets K)
/-! _law_is_right -/
abbrev s__law_is_right : Stmt := top 32
abbrev N__law_is_right : List Str := ["_law_web_here", "_law_some", "_law_into", "_law_out", "_law_told", "_law_rest", "_law_k", "_law_name_in"]
theorem sc__law_is_right : FnScope N__law_is_right ["_law_web_here", "_law_some"] (defScope s__law_is_right) := ⟨rfl, rfl, rfl, by decide +kernel, rfl, by decide +kernel, by decide +kernel⟩
def t__law_is_right (K : PySem.W.Frag) : TS := (tSeq (tAsg (tLc (iRng1 (tCons (tCB (rLenA K) (tCons (tOp (rIxA K) (tVar 0) (tC (.int 1))) tNil)) tNil)) (gName 6) (tAnd (tTest (tOp (rInA K fun b => !b) (tOp (rIxA K) (tOp (rIxA K) (tOp (rIxA K) (tVar 0) (tC (.int 1))) (tVar 6)) (tC (.int 0))) (tVar 1))) (tTest (tOp (rInA K fun b => b) (tOp (rIxA K) (tOp (rIxA K) (tOp (rIxA K) (tVar 0) (tC (.int 1))) (tVar 6)) (tC (.int 1))) (tVar 1)))) (tVar 6) [6]) (gName 2)) (tSeq (tAsg (tLc (iRng1 (tCons (tCB (rLenA K) (tCons (tOp (rIxA K) (tVar 0) (tC (.int 1))) tNil)) tNil)) (gName 6) (tAnd (tTest (tOp (rInA K fun b => b) (tOp (rIxA K) (tOp (rIxA K) (tOp (rIxA K) (tVar 0) (tC (.int 1))) (tVar 6)) (tC (.int 0))) (tVar 1))) (tTest (tOp (rInA K fun b => !b) (tOp (rIxA K) (tOp (rIxA K) (tOp (rIxA K) (tVar 0) (tC (.int 1))) (tVar 6)) (tC (.int 1))) (tVar 1)))) (tVar 6) [6]) (gName 3)) (tSeq (tAsg (tLst (tCons (tCall (spP 2 (runP 5 m_into_of)) [] E0 (tCons (tVar 0) (tCons (tVar 1) tNil))) (tCons (tCall (spP 2 (runP 5 m_out_of)) [] E0 (tCons (tVar 0) (tCons (tVar 1) tNil))) (tCons (tCallP (spP 2 (runP 5 m_into_of)) [1, 0] E0 (tCons (tVar 1) (tCons (tVar 0) tNil))) (tCons (tCallP (spP 2 (runP 5 m_out_of)) [1, 0] E0 (tCons (tVar 1) (tCons (tVar 0) tNil))) tNil))))) (gName 4)) (tSeq (tIfS (tNot (tTr K (tCall (spP 2 (runP 2 m__law_same)) [] E0 (tCons (tVar 4) (tCons (tLst (tCons (tCB (rTupA K) (tCons (tVar 2) tNil)) (tCons (tCB (rTupA K) (tCons (tVar 3) tNil)) (tCons (tCB (rTupA K) (tCons (tVar 2) tNil)) (tCons (tCB (rTupA K) (tCons (tVar 3) tNil)) tNil))))) tNil))))) (tRet (tC (.bl false))) tNext) (tSeq (tAsg (tCB (rTupA K) (tCons (tLc (iAny K (tOp (rIxA K) (tVar 0) (tC (.int 0)))) (gName 7) (tTest (tOp (rInA K fun b => !b) (tVar 7) (tVar 1))) (tVar 7) [7]) tNil)) (gName 5)) (tRet (tOrT K (tOp (rEqU K) (tVar 5) (tTup tNil)) (tCall (spP 2 (runP 2 m__law_same)) [] E0 (tCons (tLst (tCons (tCall (spP 2 (runP 5 m_into_of)) [] E0 (tCons (tVar 0) (tCons (tVar 5) tNil))) (tCons (tCall (spP 2 (runP 5 m_out_of)) [] E0 (tCons (tVar 0) (tCons (tVar 5) tNil))) tNil))) (tCons (tLst (tCons (tCB (rTupA K) (tCons (tVar 3) tNil)) (tCons (tCB (rTupA K) (tCons (tVar 2) tNil)) tNil))) tNil))))))))))
def m__law_is_right : SM := (mSeq (mAsg (mDat (mLc (mRange (mCons (mCB gLen (mCons (mOp gIx (mVar 0) (mC (.int 1))) mNil)) mNil)) (mgName 6) (mAnd (mTest (mOp gNotIn (mOp gIx (mOp gIx (mOp gIx (mVar 0) (mC (.int 1))) (mVar 6)) (mC (.int 0))) (mVar 1))) (mTest (mOp gIn (mOp gIx (mOp gIx (mOp gIx (mVar 0) (mC (.int 1))) (mVar 6)) (mC (.int 1))) (mVar 1)))) (mVar 6) [6])) (mgName 2)) (mSeq (mAsg (mDat (mLc (mRange (mCons (mCB gLen (mCons (mOp gIx (mVar 0) (mC (.int 1))) mNil)) mNil)) (mgName 6) (mAnd (mTest (mOp gIn (mOp gIx (mOp gIx (mOp gIx (mVar 0) (mC (.int 1))) (mVar 6)) (mC (.int 0))) (mVar 1))) (mTest (mOp gNotIn (mOp gIx (mOp gIx (mOp gIx (mVar 0) (mC (.int 1))) (mVar 6)) (mC (.int 1))) (mVar 1)))) (mVar 6) [6])) (mgName 3)) (mSeq (mAsg (mLst (mCons (mCall 2 (runP 5 m_into_of) (mCons (mVar 0) (mCons (mVar 1) mNil))) (mCons (mCall 2 (runP 5 m_out_of) (mCons (mVar 0) (mCons (mVar 1) mNil))) (mCons (mCallK 2 (runP 5 m_into_of) [1, 0] (mCons (mVar 1) (mCons (mVar 0) mNil))) (mCons (mCallK 2 (runP 5 m_out_of) [1, 0] (mCons (mVar 1) (mCons (mVar 0) mNil))) mNil))))) (mgName 4)) (mSeq (mIfS (mNot (mTr (mCall 2 (runP 2 m__law_same) (mCons (mVar 4) (mCons (mLst (mCons (mCB gTuple (mCons (mVar 2) mNil)) (mCons (mCB gTuple (mCons (mVar 3) mNil)) (mCons (mCB gTuple (mCons (mVar 2) mNil)) (mCons (mCB gTuple (mCons (mVar 3) mNil)) mNil))))) mNil))))) (mRet (mC (.bool false))) mNext) (mSeq (mAsg (mCB gTuple (mCons (mDat (mLc (mAnyI (mOp gIx (mVar 0) (mC (.int 0)))) (mgName 7) (mTest (mOp gNotIn (mVar 7) (mVar 1))) (mVar 7) [7])) mNil)) (mgName 5)) (mRet (mOrV (mOp gEq (mVar 5) (mTup mNil)) (mCall 2 (runP 2 m__law_same) (mCons (mLst (mCons (mCall 2 (runP 5 m_into_of) (mCons (mVar 0) (mCons (mVar 5) mNil))) (mCons (mCall 2 (runP 5 m_out_of) (mCons (mVar 0) (mCons (mVar 5) mNil))) mNil))) (mCons (mLst (mCons (mCB gTuple (mCons (mVar 3) mNil)) (mCons (mCB gTuple (mCons (mVar 2) mNil)) mNil))) mNil))))))))))
theorem ss__law_is_right (K : PySem.W.Frag) : SnS (t__law_is_right K) m__law_is_right := (ss_seq (ss_asg (sn_dat (sn_lc (si_range1 (sn_cons (sn_cb rc_len (sn_cons (sn_op r2_ix sn_var sn_int) sn_nil)) sn_nil)) sg_name (gk_name (by decide)) (sn_and (sn_test (sn_op (r2_in (f := fun b => !b)) (sn_op r2_ix (sn_op r2_ix (sn_op r2_ix sn_var sn_int) sn_var) sn_int) sn_var)) (sn_test (sn_op (r2_in (f := fun b => b)) (sn_op r2_ix (sn_op r2_ix (sn_op r2_ix sn_var sn_int) sn_var) sn_int) sn_var))) sn_var)) sg_name) (ss_seq (ss_asg (sn_dat (sn_lc (si_range1 (sn_cons (sn_cb rc_len (sn_cons (sn_op r2_ix sn_var sn_int) sn_nil)) sn_nil)) sg_name (gk_name (by decide)) (sn_and (sn_test (sn_op (r2_in (f := fun b => b)) (sn_op r2_ix (sn_op r2_ix (sn_op r2_ix sn_var sn_int) sn_var) sn_int) sn_var)) (sn_test (sn_op (r2_in (f := fun b => !b)) (sn_op r2_ix (sn_op r2_ix (sn_op r2_ix sn_var sn_int) sn_var) sn_int) sn_var))) sn_var)) sg_name) (ss_seq (ss_asg (sn_lst (sn_cons (sn_call (sn_cons sn_var (sn_cons sn_var sn_nil))) (sn_cons (sn_call (sn_cons sn_var (sn_cons sn_var sn_nil))) (sn_cons (sn_callK (sn_cons sn_var (sn_cons sn_var sn_nil))) (sn_cons (sn_callK (sn_cons sn_var (sn_cons sn_var sn_nil))) sn_nil))))) sg_name) (ss_seq (ss_if (sn_not (sn_tr (sn_call (sn_cons sn_var (sn_cons (sn_lst (sn_cons (sn_cb rc_tuple (sn_cons sn_var sn_nil)) (sn_cons (sn_cb rc_tuple (sn_cons sn_var sn_nil)) (sn_cons (sn_cb rc_tuple (sn_cons sn_var sn_nil)) (sn_cons (sn_cb rc_tuple (sn_cons sn_var sn_nil)) sn_nil))))) sn_nil))))) (ss_ret sn_bl) ss_next) (ss_seq (ss_asg (sn_cb rc_tuple (sn_cons (sn_dat (sn_lc (si_any (sn_op r2_ix sn_var sn_int)) sg_name (gk_name (by decide)) (sn_test (sn_op (r2_in (f := fun b => !b)) sn_var sn_var)) sn_var)) sn_nil)) sg_name) (ss_ret (sn_orV (sn_op r2_eqU sn_var (sn_tup sn_nil)) (sn_call (sn_cons (sn_lst (sn_cons (sn_call (sn_cons sn_var (sn_cons sn_var sn_nil))) (sn_cons (sn_call (sn_cons sn_var (sn_cons sn_var sn_nil))) sn_nil))) (sn_cons (sn_lst (sn_cons (sn_cb rc_tuple (sn_cons sn_var sn_nil)) (sn_cons (sn_cb rc_tuple (sn_cons sn_var sn_nil)) sn_nil))) sn_nil))))))))))
theorem ok__law_is_right {P : Program} {w : World} {K : PySem.W.Frag} {mg : Str → Option Value} {base : Heap} {f : Addr} {fd : FuncData} (b_len : mg "len" = none) (b_range : mg "range" = none) (b_tuple : mg "tuple" = none) {f_into_of : Addr} {fd_into_of : FuncData} (C_into_of : Cal P w K mg base "into_of" 7 ["net", "houses"] (spP 2 (runP 5 m_into_of)) f_into_of fd_into_of) {f_out_of : Addr} {fd_out_of : FuncData} (C_out_of : Cal P w K mg base "out_of" 7 ["net", "houses"] (spP 2 (runP 5 m_out_of)) f_out_of fd_out_of) {f__law_same : Addr} {fd__law_same : FuncData} (C__law_same : Cal P w K mg base "_law_same" 1 ["_law_told", "_law_due"] (spP 2 (runP 2 m__law_same)) f__law_same fd__law_same) (w_out_of_10 : ∀ (s : Shared) (ws : List Value), (perm [1, 0] ws).length = 2 → BindsTo s fd_out_of ⟨[], (["houses", "net"] : List Str).zip ws⟩ ((["net", "houses"] : List Str).zip (perm [1, 0] ws))) (w_into_of_10 : ∀ (s : Shared) (ws : List Value), (perm [1, 0] ws).length = 2 → BindsTo s fd_into_of ⟨[], (["houses", "net"] : List Str).zip ws⟩ ((["net", "houses"] : List Str).zip (perm [1, 0] ws))) (F : FnP K "_law_is_right" s__law_is_right f fd) : FnG P w K mg base CX0 8 f fd ["_law_web_here", "_law_some"] (spP 2 (runP 8 m__law_is_right)) :=
  have nd := sc__law_is_right.nd
  def_pure F sc__law_is_right (fun cdv A outer s H E hg hr => PSs.nox ((pss_cons (ps_setLc (i := 2) (own := [("_law_k", 6)]) (g := (gName 6)) (tt := (tAnd (tTest (tOp (rInA K fun b => !b) (tOp (rIxA K) (tOp (rIxA K) (tOp (rIxA K) (tVar 0) (tC (.int 1))) (tVar 6)) (tC (.int 0))) (tVar 1))) (tTest (tOp (rInA K fun b => b) (tOp (rIxA K) (tOp (rIxA K) (tOp (rIxA K) (tVar 0) (tC (.int 1))) (tVar 6)) (tC (.int 1))) (tVar 1))))) rfl nd rfl rfl (sw_true rfl rfl rfl (by decide +kernel)) (pi_range1 (by rfl) b_range (pa_cons (pe_callB call_lenA (by rfl) b_len boot_len (pa_cons (pe_ix (ix_A (hu64 hr)) (pv 0) pe_int (fun _ _ => rfl)) pa_nil)) pa_nil)) (blkOk_by (N := N__law_is_right) (sc := defScope s__law_is_right) (by decide +kernel)) (fun _ _ _ _ _ => (pg_name (i := 6) nd rfl (Or.inl rfl))) (fun _ _ _ _ _ => (pts_one (pw_and (pt_cmpR (op_notInA (hu65 hr)) (pe_ix (ix_A (hu64 hr)) (pe_ix (ix_A (hu64 hr)) (pe_ix (ix_A (hu64 hr)) (pv 0) pe_int (fun _ _ => rfl)) (pv 6) (fun _ _ => rfl)) pe_int (fun _ _ => rfl)) (pv 1) (by with_unfolding_all rfl)) (pw_and1 (pt_cmpR (op_inA (hu65 hr)) (pe_ix (ix_A (hu64 hr)) (pe_ix (ix_A (hu64 hr)) (pe_ix (ix_A (hu64 hr)) (pv 0) pe_int (fun _ _ => rfl)) (pv 6) (fun _ _ => rfl)) pe_int (fun _ _ => rfl)) (pv 1) (by with_unfolding_all rfl)))).pt)) (fun _ _ _ _ _ => (pv 6))) (pss_cons (ps_setLc (i := 3) (own := [("_law_k", 6)]) (g := (gName 6)) (tt := (tAnd (tTest (tOp (rInA K fun b => b) (tOp (rIxA K) (tOp (rIxA K) (tOp (rIxA K) (tVar 0) (tC (.int 1))) (tVar 6)) (tC (.int 0))) (tVar 1))) (tTest (tOp (rInA K fun b => !b) (tOp (rIxA K) (tOp (rIxA K) (tOp (rIxA K) (tVar 0) (tC (.int 1))) (tVar 6)) (tC (.int 1))) (tVar 1))))) rfl nd rfl rfl (sw_true rfl rfl rfl (by decide +kernel)) (pi_range1 (by rfl) b_range (pa_cons (pe_callB call_lenA (by rfl) b_len boot_len (pa_cons (pe_ix (ix_A (hu64 hr)) (pv 0) pe_int (fun _ _ => rfl)) pa_nil)) pa_nil)) (blkOk_by (N := N__law_is_right) (sc := defScope s__law_is_right) (by decide +kernel)) (fun _ _ _ _ _ => (pg_name (i := 6) nd rfl (Or.inl rfl))) (fun _ _ _ _ _ => (pts_one (pw_and (pt_cmpR (op_inA (hu65 hr)) (pe_ix (ix_A (hu64 hr)) (pe_ix (ix_A (hu64 hr)) (pe_ix (ix_A (hu64 hr)) (pv 0) pe_int (fun _ _ => rfl)) (pv 6) (fun _ _ => rfl)) pe_int (fun _ _ => rfl)) (pv 1) (by with_unfolding_all rfl)) (pw_and1 (pt_cmpR (op_notInA (hu65 hr)) (pe_ix (ix_A (hu64 hr)) (pe_ix (ix_A (hu64 hr)) (pe_ix (ix_A (hu64 hr)) (pv 0) pe_int (fun _ _ => rfl)) (pv 6) (fun _ _ => rfl)) pe_int (fun _ _ => rfl)) (pv 1) (by with_unfolding_all rfl)))).pt)) (fun _ _ _ _ _ => (pv 6))) (pss_cons (ps_set (i := 4) nd rfl (Or.inl rfl) (pe_lst (pa_cons (pe_calC C_into_of hg hr (by decide) (by rfl) (pa_cons (pv 0) (pa_cons (pv 1) pa_nil))) (pa_cons (pe_calC C_out_of hg hr (by decide) (by rfl) (pa_cons (pv 0) (pa_cons (pv 1) pa_nil))) (pa_cons (pe_calK C_into_of hg hr (by decide) (by rfl) w_into_of_10 (pk_cons (pv 1) (pk_cons (pv 0) pk_nil))) (pa_cons (pe_calK C_out_of hg hr (by decide) (by rfl) w_out_of_10 (pk_cons (pv 1) (pk_cons (pv 0) pk_nil))) pa_nil)))))) (pss_cons (ps_if (pt_not (pt_tr (pe_calC C__law_same hg hr (by decide) (by rfl) (pa_cons (pv 4) (pa_cons (pe_lst (pa_cons (pe_callTy call_tuple_of (by rfl) b_tuple boot_tuple (pa_cons (pv 2) pa_nil)) (pa_cons (pe_callTy call_tuple_of (by rfl) b_tuple boot_tuple (pa_cons (pv 3) pa_nil)) (pa_cons (pe_callTy call_tuple_of (by rfl) b_tuple boot_tuple (pa_cons (pv 2) pa_nil)) (pa_cons (pe_callTy call_tuple_of (by rfl) b_tuple boot_tuple (pa_cons (pv 3) pa_nil)) pa_nil))))) pa_nil))))) (pss_one (ps_ret pe_bl)) pss_nil) (pss_cons (ps_set (i := 5) nd rfl (Or.inl rfl) (pe_callTy call_tuple_of (by rfl) b_tuple boot_tuple (pa_cons (pe_lc (own := [("_law_name_in", 7)]) (g := (gName 7)) (tt := (tTest (tOp (rInA K fun b => !b) (tVar 7) (tVar 1)))) rfl nd  (pi_any (pe_ix (ix_A (hu64 hr)) (pv 0) pe_int (fun _ _ => rfl))) (blkOk_by (N := N__law_is_right) (sc := defScope s__law_is_right) (by decide +kernel)) (fun _ _ _ _ _ => (pg_name (i := 7) nd rfl (Or.inl rfl))) (fun _ _ _ _ _ => (pts_one (pt_cmpR (op_notInA (hu65 hr)) (pv 7) (pv 1) (by with_unfolding_all rfl)))) (fun _ _ _ _ _ => (pv 7))) pa_nil))) (pss_one (ps_ret (pe_orT (pe_cmpR (op_eqU (hu64 hr)) (pv 5) (pe_tup pa_nil) (nomark _)) (pe_one (pe_calC C__law_same hg hr (by decide) (by rfl) (pa_cons (pe_lst (pa_cons (pe_calC C_into_of hg hr (by decide) (by rfl) (pa_cons (pv 0) (pa_cons (pv 5) pa_nil))) (pa_cons (pe_calC C_out_of hg hr (by decide) (by rfl) (pa_cons (pv 0) (pa_cons (pv 5) pa_nil))) pa_nil))) (pa_cons (pe_lst (pa_cons (pe_callTy call_tuple_of (by rfl) b_tuple boot_tuple (pa_cons (pv 3) pa_nil)) (pa_cons (pe_callTy call_tuple_of (by rfl) b_tuple boot_tuple (pa_cons (pv 2) pa_nil)) pa_nil))) pa_nil)))))))))))))) (ss__law_is_right K)
/-! law -/
abbrev s_law : Stmt := top 33
abbrev N_law : List Str := ["_law_script", "_law_feed_here", "_law_lap", "_law_web_here", "_law_kept", "_law_here", "_law_there", "_law_due", "_law_some", "_law_k"]
theorem sc_law : FnScope N_law ["_law_script"] (defScope s_law) := ⟨rfl, rfl, rfl, by decide +kernel, rfl, by decide +kernel, by decide +kernel⟩
def t_law (K : PySem.W.Frag) : TS := (tSeq (tFor (iRng1 (tCons (tC (.int 3)) tNil)) (gName 2) (tSeq (tAsg (tCall (spF 3 (runF 9 m__law_web)) [] E0 (tCons (tVar 1) (tCons (tC (.int 5)) (tCons (tC (.int 8)) tNil)))) (gName 3)) (tSeq (tAsg (tCB (rRepr K) (tCons (tVar 3) tNil)) (gName 4)) (tSeq (tIfS (tTest (tOp (rNeU K) (tLc (iAny K (tCall (spP 1 (runP 4 m__law_sets)) [] E0 (tCons (tOp (rIxA K) (tVar 3) (tC (.int 0))) tNil))) (gName 8) (tNot (tTr K (tCall (spP 2 (runP 8 m__law_is_right)) [] E0 (tCons (tVar 3) (tCons (tVar 8) tNil))))) (tVar 8) [8]) (tLst tNil))) (tRet (tC (.bl false))) tNext) (tSeq (tFor (iAny K (tOp (rIxA K) (tVar 3) (tC (.int 0)))) (gName 5) (tFor (iAny K (tOp (rIxA K) (tVar 3) (tC (.int 0)))) (gName 6) (tSeq (tAsg (tCB (rTupA K) (tCons (tLc (iRng1 (tCons (tCB (rLenA K) (tCons (tOp (rIxA K) (tVar 3) (tC (.int 1))) tNil)) tNil)) (gName 9) (tTest (tOp (rEqU K) (tOp (rIxA K) (tOp (rIxA K) (tVar 3) (tC (.int 1))) (tVar 9)) (tTup (tCons (tVar 5) (tCons (tVar 6) tNil))))) (tVar 9) [9]) tNil)) (gName 7)) (tIfS (tNot (tTr K (tCall (spP 2 (runP 2 m__law_same)) [] E0 (tCons (tLst (tCons (tCall (spP 3 (runP 5 m_between)) [] E0 (tCons (tVar 3) (tCons (tVar 5) (tCons (tVar 6) tNil)))) (tCons (tCallP (spP 3 (runP 5 m_between)) [2, 1, 0] E0 (tCons (tVar 6) (tCons (tVar 5) (tCons (tVar 3) tNil)))) tNil))) (tCons (tLst (tCons (tVar 7) (tCons (tVar 7) tNil))) tNil))))) (tRet (tC (.bl false))) tNext)))) (tIfS (tTest (tOp (rNeU K) (tCB (rRepr K) (tCons (tVar 3) tNil)) (tVar 4))) (tRet (tC (.bl false))) tNext)))))) (tRet (tC (.bl true))))
def m_law : SM := (mSeq (mFor (mRange (mCons (mC (.int 3)) mNil)) (mgName 2) (mSeq (mAsg (mCallF 3 (runF 9 m__law_web) (mCons (mVar 1) (mCons (mC (.int 5)) (mCons (mC (.int 8)) mNil)))) (mgName 3)) (mSeq (mAsg (mCB gRepr (mCons (mVar 3) mNil)) (mgName 4)) (mSeq (mIfS (mTest (mOp gNe (mDat (mLc (mAnyI (mCall 1 (runP 4 m__law_sets) (mCons (mOp gIx (mVar 3) (mC (.int 0))) mNil))) (mgName 8) (mNot (mTr (mCall 2 (runP 8 m__law_is_right) (mCons (mVar 3) (mCons (mVar 8) mNil))))) (mVar 8) [8])) (mLst mNil))) (mRet (mC (.bool false))) mNext) (mSeq (mFor (mAnyI (mOp gIx (mVar 3) (mC (.int 0)))) (mgName 5) (mFor (mAnyI (mOp gIx (mVar 3) (mC (.int 0)))) (mgName 6) (mSeq (mAsg (mCB gTuple (mCons (mDat (mLc (mRange (mCons (mCB gLen (mCons (mOp gIx (mVar 3) (mC (.int 1))) mNil)) mNil)) (mgName 9) (mTest (mOp gEq (mOp gIx (mOp gIx (mVar 3) (mC (.int 1))) (mVar 9)) (mTup (mCons (mVar 5) (mCons (mVar 6) mNil))))) (mVar 9) [9])) mNil)) (mgName 7)) (mIfS (mNot (mTr (mCall 2 (runP 2 m__law_same) (mCons (mLst (mCons (mCall 3 (runP 5 m_between) (mCons (mVar 3) (mCons (mVar 5) (mCons (mVar 6) mNil)))) (mCons (mCallK 3 (runP 5 m_between) [2, 1, 0] (mCons (mVar 6) (mCons (mVar 5) (mCons (mVar 3) mNil)))) mNil))) (mCons (mLst (mCons (mVar 7) (mCons (mVar 7) mNil))) mNil))))) (mRet (mC (.bool false))) mNext)))) (mIfS (mTest (mOp gNe (mCB gRepr (mCons (mVar 3) mNil)) (mVar 4))) (mRet (mC (.bool false))) mNext)))))) (mRet (mC (.bool true))))
theorem ss_law (K : PySem.W.Frag) : SnS (t_law K) m_law := (ss_seq (ss_for (si_range1 (sn_cons sn_int sn_nil)) sg_name (ss_seq (ss_asg (sn_callF (sn_cons sn_var (sn_cons sn_int (sn_cons sn_int sn_nil)))) sg_name) (ss_seq (ss_asg (sn_cb rc_repr (sn_cons sn_var sn_nil)) sg_name) (ss_seq (ss_if (sn_test (sn_op r2_neU (sn_dat (sn_lc (si_any (sn_call (sn_cons (sn_op r2_ix sn_var sn_int) sn_nil))) sg_name (gk_name (by decide)) (sn_not (sn_tr (sn_call (sn_cons sn_var (sn_cons sn_var sn_nil))))) sn_var)) (sn_lst sn_nil))) (ss_ret sn_bl) ss_next) (ss_seq (ss_for (si_any (sn_op r2_ix sn_var sn_int)) sg_name (ss_for (si_any (sn_op r2_ix sn_var sn_int)) sg_name (ss_seq (ss_asg (sn_cb rc_tuple (sn_cons (sn_dat (sn_lc (si_range1 (sn_cons (sn_cb rc_len (sn_cons (sn_op r2_ix sn_var sn_int) sn_nil)) sn_nil)) sg_name (gk_name (by decide)) (sn_test (sn_op r2_eqU (sn_op r2_ix (sn_op r2_ix sn_var sn_int) sn_var) (sn_tup (sn_cons sn_var (sn_cons sn_var sn_nil))))) sn_var)) sn_nil)) sg_name) (ss_if (sn_not (sn_tr (sn_call (sn_cons (sn_lst (sn_cons (sn_call (sn_cons sn_var (sn_cons sn_var (sn_cons sn_var sn_nil)))) (sn_cons (sn_callK (sn_cons sn_var (sn_cons sn_var (sn_cons sn_var sn_nil)))) sn_nil))) (sn_cons (sn_lst (sn_cons sn_var (sn_cons sn_var sn_nil))) sn_nil))))) (ss_ret sn_bl) ss_next)))) (ss_if (sn_test (sn_op r2_neU (sn_cb rc_repr (sn_cons sn_var sn_nil)) sn_var)) (ss_ret sn_bl) ss_next)))))) (ss_ret sn_bl))
theorem ok_law {P : Program} {w : World} {K : PySem.W.Frag} {mg : Str → Option Value} {base : Heap} {f : Addr} {fd : FuncData} (b_len : mg "len" = none) (b_range : mg "range" = none) (b_repr : mg "repr" = none) (b_tuple : mg "tuple" = none) {f_between : Addr} {fd_between : FuncData} (C_between : Cal P w K mg base "between" 7 ["net", "source", "target"] (spP 3 (runP 5 m_between)) f_between fd_between) {f__law_feed : Addr} {fd__law_feed : FuncData} (C__law_feed : Cal P w K mg base "_law_feed" 1 ["_law_script"] (spFeed K) f__law_feed fd__law_feed) {f__law_same : Addr} {fd__law_same : FuncData} (C__law_same : Cal P w K mg base "_law_same" 1 ["_law_told", "_law_due"] (spP 2 (runP 2 m__law_same)) f__law_same fd__law_same) {f__law_web : Addr} {fd__law_web : FuncData} (C__law_web : Cal P w K mg base "_law_web" 4 ["_law_feed_here", "_law_most", "_law_many"] (spF 3 (runF 9 m__law_web)) f__law_web fd__law_web) {f__law_sets : Addr} {fd__law_sets : FuncData} (C__law_sets : Cal P w K mg base "_law_sets" 1 ["_law_names_here"] (spP 1 (runP 4 m__law_sets)) f__law_sets fd__law_sets) {f__law_is_right : Addr} {fd__law_is_right : FuncData} (C__law_is_right : Cal P w K mg base "_law_is_right" 8 ["_law_web_here", "_law_some"] (spP 2 (runP 8 m__law_is_right)) f__law_is_right fd__law_is_right) (w_between_210 : ∀ (s : Shared) (ws : List Value), (perm [2, 1, 0] ws).length = 3 → BindsTo s fd_between ⟨[], (["target", "source", "net"] : List Str).zip ws⟩ ((["net", "source", "target"] : List Str).zip (perm [2, 1, 0] ws))) (F : FnP K "law" s_law f fd) : lawOk 10 m_law → FnG P w K mg base CX0 9 f fd ["_law_script"] (spLaw K) :=
  have nd := sc_law.nd
  fun ok : lawOk 10 m_law => def_law F sc_law rfl (by decide) (fun cdv A outer s H E hg hr => PSs.nox (pss_cons (ps_set (i := 1) nd rfl (Or.inl rfl) (pe_calC C__law_feed hg hr (by decide) (by rfl) (pa_cons (pv 0) pa_nil))) (pss_cons (ps_for PassesOwn.never rfl (pi_range1 (by rfl) b_range (pa_cons pe_int pa_nil)) (pg_name (i := 2) nd rfl (Or.inl rfl)) (pss_cons (ps_set (i := 3) nd rfl (Or.inr rfl) (pe_calC C__law_web hg hr (by decide) (by rfl) (pa_cons (pv 1) (pa_cons pe_int (pa_cons pe_int pa_nil))))) (pss_cons (ps_set (i := 4) nd rfl (Or.inl rfl) (pe_callB (call_repr hg (hu64 hr)) (by rfl) b_repr boot_repr (pa_cons (pv 3) pa_nil))) (pss_cons (ps_if (pt_cmpR (op_neU (hu64 hr)) (pe_lc (own := [("_law_some", 8)]) (g := (gName 8)) (tt := (tNot (tTr K (tCall (spP 2 (runP 8 m__law_is_right)) [] E0 (tCons (tVar 3) (tCons (tVar 8) tNil)))))) rfl nd  (pi_any (pe_calC C__law_sets hg hr (by decide) (by rfl) (pa_cons (pe_ix (ix_A (hu64 hr)) (pv 3) pe_int (fun _ _ => rfl)) pa_nil))) (blkOk_by (N := N_law) (sc := defScope s_law) (by decide +kernel)) (fun _ _ _ _ _ => (pg_name (i := 8) nd rfl (Or.inl rfl))) (fun _ _ _ _ _ => (pts_one (pt_not (pt_tr (pe_calC C__law_is_right hg hr (by decide) (by rfl) (pa_cons (pv 3) (pa_cons (pv 8) pa_nil))))))) (fun _ _ _ _ _ => (pv 8))) (pe_lst pa_nil) (nomark _)) (pss_one (ps_ret pe_bl)) pss_nil) (pss_cons (ps_for PassesOwn.never rfl (pi_any (pe_ix (ix_A (hu64 hr)) (pv 3) pe_int (fun _ _ => rfl))) (pg_name (i := 5) nd rfl (Or.inr rfl)) (pss_one (ps_for PassesOwn.never rfl (pi_any (pe_ix (ix_A (hu64 hr)) (pv 3) pe_int (fun _ _ => rfl))) (pg_name (i := 6) nd rfl (Or.inr rfl)) (pss_cons (ps_set (i := 7) nd rfl (Or.inl rfl) (pe_callTy call_tuple_of (by rfl) b_tuple boot_tuple (pa_cons (pe_lc (own := [("_law_k", 9)]) (g := (gName 9)) (tt := (tTest (tOp (rEqU K) (tOp (rIxA K) (tOp (rIxA K) (tVar 3) (tC (.int 1))) (tVar 9)) (tTup (tCons (tVar 5) (tCons (tVar 6) tNil)))))) rfl nd  (pi_range1 (by rfl) b_range (pa_cons (pe_callB call_lenA (by rfl) b_len boot_len (pa_cons (pe_ix (ix_A (hu64 hr)) (pv 3) pe_int (fun _ _ => rfl)) pa_nil)) pa_nil)) (blkOk_by (N := N_law) (sc := defScope s_law) (by decide +kernel)) (fun _ _ _ _ _ => (pg_name (i := 9) nd rfl (Or.inl rfl))) (fun _ _ _ _ _ => (pts_one (pt_cmpR (op_eqU (hu64 hr)) (pe_ix (ix_A (hu64 hr)) (pe_ix (ix_A (hu64 hr)) (pv 3) pe_int (fun _ _ => rfl)) (pv 9) (fun _ _ => rfl)) (pe_tup (pa_cons (pv 5) (pa_cons (pv 6) pa_nil))) (nomark _)))) (fun _ _ _ _ _ => (pv 9))) pa_nil))) (pss_one (ps_if (pt_not (pt_tr (pe_calC C__law_same hg hr (by decide) (by rfl) (pa_cons (pe_lst (pa_cons (pe_calC C_between hg hr (by decide) (by rfl) (pa_cons (pv 3) (pa_cons (pv 5) (pa_cons (pv 6) pa_nil)))) (pa_cons (pe_calK C_between hg hr (by decide) (by rfl) w_between_210 (pk_cons (pv 6) (pk_cons (pv 5) (pk_cons (pv 3) pk_nil)))) pa_nil))) (pa_cons (pe_lst (pa_cons (pv 7) (pa_cons (pv 7) pa_nil))) pa_nil))))) (pss_one (ps_ret pe_bl)) pss_nil)))))) (pss_one (ps_if (pt_cmpR (op_neU (hu64 hr)) (pe_callB (call_repr hg (hu64 hr)) (by rfl) b_repr boot_repr (pa_cons (pv 3) pa_nil)) (pv 4) (nomark _)) (pss_one (ps_ret pe_bl)) pss_nil))))))) (pss_one (ps_ret pe_bl))))) (ss_law K) ok
end G06

namespace G06
open PySem PySem.Spec PyProof.Rows L2 RZ AP
def fd (cs : List Int) (n l w : Int) : MO := .k (fdl (.list (cs.map .int)) (.int n) (.int l) (.int w))
theorem tk1 : toKey (.str (Str.ofString "drawn")) = some kW := rfl
theorem tk2 : toKey (.str (Str.ofString "left")) = some kL := rfl
theorem tk3 : toKey (.str (Str.ofString "next")) = some kN := rfl
theorem tk4 : toKey (.str (Str.ofString "cells")) = some kC := rfl
theorem ixW (c n l w : D) : gIx (.dict (kvD (fdl c n l w))) (.str (Str.ofString "drawn")) = some w := by rw [fix _ _ _ _ _ _ tk1, if_neg fk3, if_neg fk5, if_neg fk6, if_pos rfl]
theorem ixL (c n l w : D) : gIx (.dict (kvD (fdl c n l w))) (.str (Str.ofString "left")) = some l := by rw [fix _ _ _ _ _ _ tk2, if_neg fk2, if_neg fk4, if_pos rfl]
theorem ixN' (c n l w : D) : gIx (.dict (kvD (fdl c n l w))) (.str (Str.ofString "next")) = some n := by rw [fix _ _ _ _ _ _ tk3, if_neg fk1, if_pos rfl]
theorem ixC (c n l w : D) : gIx (.dict (kvD (fdl c n l w))) (.str (Str.ofString "cells")) = some c := by rw [fix _ _ _ _ _ _ tk4, if_pos rfl]
theorem ptW (c n l w x : D) : putD (fdl c n l w) kW x = fdl c n l x := by unfold fdl; simp only [putD, if_neg fk3, if_neg fk5, if_neg fk6, if_true]
theorem ptL (c n l w x : D) : putD (fdl c n l w) kL x = fdl c n x w := by unfold fdl; simp only [putD, if_neg fk2, if_neg fk4, if_true]
theorem ptN (c n l w x : D) : putD (fdl c n l w) kN x = fdl c x l w := by unfold fdl; simp only [putD, if_neg fk1, if_true]
theorem fnd (c n l w : D) : (fdl c n l w).length < 100000 ∧ ((fdl c n l w).map (·.1)).Nodup := ⟨by show 4 < 100000; decide, by show [kC, kN, kL, kW].Nodup; decide +kernel⟩
theorem st7 (x y : SV) : st0 7 [x, y] = [some x, some y, none, none, none, none, none] := rfl
theorem gNe_nil : gNe (.list (([] : List Int).map .int)) (.list []) = some (.bool false) := rfl
theorem canLay_ints : ∀ xs : List Int, PyData.canLayAll0 (xs.map .int) = true
  | [] => by simp [PyData.canLayAll0]
  | x :: xs => by simp [PyData.canLayAll0, PyData.canLay0, canLay_ints xs]
theorem depth_ints : ∀ xs : List Int, PyData.depthAll (xs.map .int) = 0
  | [] => by simp [PyData.depthAll]
  | x :: xs => by simp [PyData.depthAll, PyData.depth, depth_ints xs]
theorem shp_ints (xs : List Int) : shp (.list (xs.map .int)) = true := shp_of (by simp [PyData.canLay0, canLay_ints]) (by simp [PyData.depth, depth_ints])
theorem shp_nil : shp (.list []) = true := by decide +kernel
theorem gNe_ints (c : Int) (cs : List Int) : gNe (.list ((c :: cs).map .int)) (.list []) = some (.bool true) := by
  unfold gNe
  simp only [shp_ints, shp_nil, Bool.and_self, if_true, PyData.eqv]
  simp only [List.map_cons, PyData.eqvAll, Bool.not_false]
theorem atI_in {α : Type} {xs : List α} {i : Int} (h0 : 0 ≤ i) (h1 : i < xs.length) : ∃ x, atI xs i = some x ∧ x ∈ xs ∧ xs[i.toNat]? = some x := by
  have hl : i.toNat < xs.length := by omega
  refine ⟨xs[i.toNat], ?_, List.getElem_mem hl, List.getElem?_eq_getElem hl⟩
  unfold atI ixN
  rw [if_pos h0, if_pos h1]
  show xs[i.toNat]? = _
  exact List.getElem?_eq_getElem hl
theorem cell_at (cs : List Int) {i : Int} (h0 : 0 ≤ i) (h1 : i < cs.length) : ∃ c, gIx (.list (cs.map .int)) (.int i) = some (.int c) := by
  obtain ⟨x, e, m, _⟩ := atI_in (xs := cs.map PyData.int) h0 (by simpa using h1)
  obtain ⟨c, _, rfl⟩ := List.mem_map.mp m
  exact ⟨c, e⟩
theorem gPow18 : gPow (.int 10) (.int 18) = some (.int 1000000000000000000) := rfl
theorem gMod_e {i j : Int} (h : 0 < j) : gMod (.int i) (.int j) = some (.int (i % j)) := by simp only [gMod, g2I, h, decide_true, if_true]
theorem gDiv_e {i j : Int} (h : 0 < j) (h1 : j < 1073741824) : gDiv (.int i) (.int j) = some (.int (i / j)) := by simp only [gDiv, g2I, h, h1, decide_true, Bool.and_self, if_true]
theorem gMul_l {a b : Int} (h1 : -18446744073709551616 < a) (h2 : a < 18446744073709551616) : gMul (.int a) (.int b) = some (.int (a * b)) := by
  unfold gMul g2I
  simp only [Int.reducePow, Int.reduceNeg, decide_eq_true h1, decide_eq_true h2, Bool.and_self, Bool.true_or, if_true]
theorem gM1 (e b : Int) : gMul (.int (e % 2147390209)) (.int b) = some (.int ((e % 2147390209) * b)) := gMul_l (by omega) (by omega)
theorem gM2 (e b : Int) : gMul (.int (e % 2147390281)) (.int b) = some (.int ((e % 2147390281) * b)) := gMul_l (by omega) (by omega)
theorem gM3 (b : Int) : gMul (.int 70594) (.int b) = some (.int (70594 * b)) := gMul_l (by omega) (by omega)
theorem gM4 (b : Int) : gMul (.int 958592) (.int b) = some (.int (958592 * b)) := gMul_l (by omega) (by omega)
theorem gM5 (b : Int) : gMul (.int 476) (.int b) = some (.int (476 * b)) := gMul_l (by omega) (by omega)
theorem draw_ev {cs : List Int} {n l w many : Int} (h0 : 0 < many) (h1 : many < 1073741824) : ∃ d n' l' w', runF 7 m__law_draw (fd cs n l w) [.int many] = some (.int d, fd cs n' l' w') ∧ 0 ≤ d ∧ d < many := by
  unfold runF m__law_draw fd
  simp only [List.map_cons, List.map_nil, st7]
  have tl : ∀ e : Int, 0 ≤ e % many ∧ e % many < many := fun e => ⟨Int.emod_nonneg _ (by omega), Int.emod_lt_of_pos _ h0⟩
  by_cases hl : 0 < l
  · refine ⟨l % many, n, l / many, w + 1, ?_, tl _⟩
    simp only [mSeq, mPut, mOp, mVar, mC, mIfS, mTest, mAsg, mgName, mCB, mCons, mNil, mRet, mNext, S.on, vw, vws, List.getElem?_cons_zero, List.getElem?_cons_succ, List.set_cons_zero, List.set_cons_succ,
      ixW, ixL, ixN', ixC, tk1, tk2, tk3, tk4, ptW, ptL, ptN, fnd, and_self, if_true, gAddU, g2I, oel, gGtU, gInt, gMod_e, gDiv_e, hl, h0, h1, decide_true, retF, Bool.and_self]
  · have cell : ∃ c : Int, ∀ (a b : Option SV) (q e : Option SV) (o : List MO), mIf (mTest (mOp gNe (mVar 6) (mLst mNil))) (mOp gIx (mVar 6) (mOp gMod (mCB gInt (mCons (mVar 5) mNil)) (mCB gLen (mCons (mVar 6) mNil)))) (mC (.int 7806))
        ⟨[a, b, q, e, none, some (.d (.int n)), some (.d (.list (cs.map .int)))], o⟩ = some (.d (.int c), o) := by
      cases cs with
      | nil => exact ⟨7806, fun a b q e o => by simp only [mIf, mTest, mOp, mVar, mLst, mNil, S.on, vw, vws, dats, List.getElem?_cons_zero, List.getElem?_cons_succ, gNe_nil, mC, List.length_nil, Nat.zero_le, if_true]⟩
      | cons x xs =>
        have hp : (0 : Int) < ((x :: xs).map PyData.int).length := by simp only [List.length_map, List.length_cons]; omega
        obtain ⟨c, hc⟩ := cell_at (x :: xs) (i := n % ((x :: xs).map PyData.int).length) (Int.emod_nonneg _ (by omega)) (by
          have := Int.emod_lt_of_pos n hp
          simpa using this)
        exact ⟨c, fun a b q e o => by simp only [mIf, mTest, mOp, mVar, mLst, mNil, mCons, mCB, gInt, gLen, gMod, g2I, S.on, vw, vws, dats, List.getElem?_cons_zero, List.getElem?_cons_succ, gNe_ints, mC, List.length_nil, Nat.zero_le, if_true, hp, decide_true, hc]⟩
    obtain ⟨c, hc⟩ := cell
    by_cases b1 : (1000000000000000000 : Int) ≤ c
    · by_cases b2 : n < ((cs.map PyData.int).length : Int)
      · refine ⟨c % many, n + 1, c / many, w + 1, ?_, tl _⟩
        simp only [mSeq, mPut, mOp, mVar, mC, mIfS, mTest, mAsg, mgName, mCB, mCons, mNil, mRet, mNext, mPar, mAnd, S.on, vw, vws, List.getElem?_cons_zero, List.getElem?_cons_succ, List.set_cons_zero, List.set_cons_succ, hc, gPow18,
          ixW, ixL, ixN', ixC, tk1, tk2, tk3, tk4, ptW, ptL, ptN, fnd, and_self, if_true, gAddU, g2I, oel, gGtU, gGeU, gLtU, gLen, gInt, gMod_e, gDiv_e, hl, h0, h1, b1, b2, decide_true, decide_false, retF, Bool.and_self]
      · refine ⟨((((((c % 1000400237 + 70594 * (w + 1) + 546) % 2147390209) * (((c % 1000400237 + 70594 * (w + 1) + 546) % 2147390209)) + 958592 * (w + 1) + 714) % 2147390281) * ((((c % 1000400237 + 70594 * (w + 1) + 546) % 2147390209) * (((c % 1000400237 + 70594 * (w + 1) + 546) % 2147390209)) + 958592 * (w + 1) + 714) % 2147390281) + 476 * ((((c % 1000400237 + 70594 * (w + 1) + 546) % 2147390209) * (((c % 1000400237 + 70594 * (w + 1) + 546) % 2147390209)) + 958592 * (w + 1) + 714) % 2147390281)) % 2147390107 / 32) % many, n + 1, l, w + 1, ?_, tl _⟩
        simp only [mSeq, mPut, mOp, mVar, mC, mIfS, mTest, mAsg, mgName, mCB, mCons, mNil, mRet, mNext, mPar, mAnd, S.on, vw, vws, List.getElem?_cons_zero, List.getElem?_cons_succ, List.set_cons_zero, List.set_cons_succ, hc, gPow18, gM1, gM2, gM3, gM4, gM5, Int.reduceLT,
          ixW, ixL, ixN', ixC, tk1, tk2, tk3, tk4, ptW, ptL, ptN, fnd, and_self, if_true, gAddU, g2I, oel, gGtU, gGeU, gLtU, gLen, gInt, gMod_e, gDiv_e, hl, h0, h1, b1, b2, decide_true, decide_false, retF, Bool.and_self]
    · refine ⟨((((((c % 1000400237 + 70594 * (w + 1) + 546) % 2147390209) * (((c % 1000400237 + 70594 * (w + 1) + 546) % 2147390209)) + 958592 * (w + 1) + 714) % 2147390281) * ((((c % 1000400237 + 70594 * (w + 1) + 546) % 2147390209) * (((c % 1000400237 + 70594 * (w + 1) + 546) % 2147390209)) + 958592 * (w + 1) + 714) % 2147390281) + 476 * ((((c % 1000400237 + 70594 * (w + 1) + 546) % 2147390209) * (((c % 1000400237 + 70594 * (w + 1) + 546) % 2147390209)) + 958592 * (w + 1) + 714) % 2147390281)) % 2147390107 / 32) % many, n + 1, l, w + 1, ?_, tl _⟩
      simp only [mSeq, mPut, mOp, mVar, mC, mIfS, mTest, mAsg, mgName, mCB, mCons, mNil, mRet, mNext, mPar, mAnd, S.on, vw, vws, List.getElem?_cons_zero, List.getElem?_cons_succ, List.set_cons_zero, List.set_cons_succ, hc, gPow18, gM1, gM2, gM3, gM4, gM5, Int.reduceLT,
          ixW, ixL, ixN', ixC, tk1, tk2, tk3, tk4, ptW, ptL, ptN, fnd, and_self, if_true, gAddU, g2I, oel, gGtU, gGeU, gLtU, gLen, gInt, gMod_e, gDiv_e, hl, h0, h1, b1, decide_true, decide_false, retF, Bool.and_self]
end G06

namespace G06
open PySem PySem.Spec PyProof.Rows L2 RZ AP
theorem perm2 {α : Type} (a b : α) : perm [1, 0] [a, b] = [b, a] := rfl
theorem perm3 {α : Type} (a b c : α) : perm [2, 1, 0] [a, b, c] = [c, b, a] := rfl
def FeedOk (fo : MO) : Prop := ∃ cs n l w, fo = fd cs n l w
theorem draw {fo : MO} (h : FeedOk fo) {many : Int} (h0 : 0 < many) (h1 : many < 1073741824) : ∃ d fo', runF 7 m__law_draw fo [.int many] = some (.int d, fo') ∧ 0 ≤ d ∧ d < many ∧ FeedOk fo' := by
  obtain ⟨cs, n, l, w, rfl⟩ := h
  obtain ⟨d, n', l', w', e, a, b⟩ := draw_ev (cs := cs) (n := n) (l := l) (w := w) h0 h1
  exact ⟨d, _, e, a, b, cs, n', l', w', rfl⟩
theorem any_l {fo : MO} (h : FeedOk fo) {L : List D} (h0 : L ≠ []) (h1 : L.length < 1000000) : ∃ x fo', runF 2 m__law_any fo [.list L] = some (x, fo') ∧ x ∈ L ∧ FeedOk fo' := by
  have hp : 0 < L.length := List.length_pos_iff.mpr h0
  obtain ⟨d, fo', e, a, b, f⟩ := draw h (many := (L.length : Int)) (by omega) (by omega)
  obtain ⟨x, e2, m, _⟩ := atI_in (xs := L) a b
  refine ⟨x, fo', ?_, m, f⟩
  show retF (m__law_any ⟨[some (.m 0), some (.d (.list L))], [fo]⟩) = _
  unfold m__law_any
  simp only [mSeq, mPut, mOp, mVar, mC, mIfS, mTest, mTr, mNot, mAsg, mgName, mgTup, mgCons, mgNil, mCB, mCons, mNil, mRet, mNext, mPar, mParO, mLstN, mAnd, mOr, mAndV, mOrV, mNotV, mIf, mTup, mLst, mSl, mPart, mNoPart, mCall, mCallK, mCallF, mDrop, mDat, mApp, mChain, mIsi, mRange, mItems, mEnum, mAnyI, mYes, seqOf, frz, isiB, truD, perm2, perm3, AP.S.on, vw, vws, dats, List.getElem?_cons_zero, List.getElem?_cons_succ, List.set_cons_zero, List.set_cons_succ, List.map_cons, List.map_nil, List.length_cons, List.length_nil, List.cons_append, List.nil_append, and_self, if_true, decide_true, decide_false, Bool.and_self, Bool.not_true, Bool.not_false, Nat.reduceAdd, Nat.reduceLeDiff, Nat.zero_add, Int.reduceLT, gLen, e, gIx, e2, retF]
theorem any_t {fo : MO} (h : FeedOk fo) {L : List D} (h0 : L ≠ []) (h1 : L.length < 1000000) : ∃ x fo', runF 2 m__law_any fo [.tuple L] = some (x, fo') ∧ x ∈ L ∧ FeedOk fo' := by
  have hp : 0 < L.length := List.length_pos_iff.mpr h0
  obtain ⟨d, fo', e, a, b, f⟩ := draw h (many := (L.length : Int)) (by omega) (by omega)
  obtain ⟨x, e2, m, _⟩ := atI_in (xs := L) a b
  refine ⟨x, fo', ?_, m, f⟩
  show retF (m__law_any ⟨[some (.m 0), some (.d (.tuple L))], [fo]⟩) = _
  unfold m__law_any
  simp only [mSeq, mPut, mOp, mVar, mC, mIfS, mTest, mTr, mNot, mAsg, mgName, mgTup, mgCons, mgNil, mCB, mCons, mNil, mRet, mNext, mPar, mParO, mLstN, mAnd, mOr, mAndV, mOrV, mNotV, mIf, mTup, mLst, mSl, mPart, mNoPart, mCall, mCallK, mCallF, mDrop, mDat, mApp, mChain, mIsi, mRange, mItems, mEnum, mAnyI, mYes, seqOf, frz, isiB, truD, perm2, perm3, AP.S.on, vw, vws, dats, List.getElem?_cons_zero, List.getElem?_cons_succ, List.set_cons_zero, List.set_cons_succ, List.map_cons, List.map_nil, List.length_cons, List.length_nil, List.cons_append, List.nil_append, and_self, if_true, decide_true, decide_false, Bool.and_self, Bool.not_true, Bool.not_false, Nat.reduceAdd, Nat.reduceLeDiff, Nat.zero_add, Int.reduceLT, gLen, e, gIx, e2, retF]
def menus : List (List Str) := [["a", "b", "c", "d", "e", "f", "g", "h"].map Str.ofString, ["houses", "none", "ab", "aba", "b", "ba", "abc", "lay"].map Str.ofString, ["zzzzzzzz", "zzzzzzza", "z", "zz", "y", "yz", "x", "give"].map Str.ofString]
def rots : List (List Str) := menus.flatMap fun m => (List.range 8).map fun k => m.drop k ++ m.take k
theorem menu_len : ∀ m ∈ menus, m.length = 8 := by decide +kernel
theorem names_ev {fo : MO} (h : FeedOk fo) : ∃ L fo', runF 4 m__law_names fo [] = some (.list (L.map .str), fo') ∧ L ∈ rots ∧ FeedOk fo' := by
  obtain ⟨x, f1, e1, hx, h1⟩ := any_l h (L := menus.map fun m => .list (m.map .str)) (by simp [menus]) (by simp [menus])
  obtain ⟨k, f2, e2, k0, k8, h2⟩ := draw h1 (many := 8) (by decide) (by decide)
  obtain ⟨m, hm, rfl⟩ := List.mem_map.mp hx
  have ml := menu_len m hm
  refine ⟨m.drop k.toNat ++ m.take k.toNat, f2, ?_, ?_, h2⟩
  · show retF (m__law_names ⟨[some (.m 0), none, none, none], [fo]⟩) = _
    unfold m__law_names
    unfold menus at e1
    simp only [List.map_cons, List.map_nil] at e1
    simp only [mSeq, mPut, mOp, mVar, mC, mIfS, mTest, mTr, mNot, mAsg, mgName, mgTup, mgCons, mgNil, mCB, mCons, mNil, mRet, mNext, mPar, mParO, mLstN, mAnd, mOr, mAndV, mOrV, mNotV, mIf, mTup, mLst, mSl, mPart, mNoPart, mCall, mCallK, mCallF, mDrop, mDat, mApp, mChain, mIsi, mRange, mItems, mEnum, mAnyI, mYes, seqOf, frz, isiB, truD, perm2, perm3, AP.S.on, vw, vws, dats, List.getElem?_cons_zero, List.getElem?_cons_succ, List.set_cons_zero, List.set_cons_succ, List.map_cons, List.map_nil, List.length_cons, List.length_nil, List.cons_append, List.nil_append, and_self, if_true, decide_true, decide_false, Bool.and_self, Bool.not_true, Bool.not_false, Nat.reduceAdd, Nat.reduceLeDiff, Nat.zero_add, Int.reduceLT, gAddU, g2I, oel, gAddS, g2S, gAddL, e1, e2, gSl, cut_drop _ k0, cut_take _ k0, retF]
    rw [if_pos (by simp; omega)]
    simp
  · refine List.mem_flatMap.mpr ⟨m, hm, List.mem_map.mpr ⟨k.toNat, List.mem_range.mpr (by omega), rfl⟩⟩
end G06

namespace G06
open PySem PySem.Spec PyProof.Rows L2 RZ AP
def isT : Option D → Bool
  | some (.bool true) => true
  | _ => false
theorem isT_eq {x : Option D} (h : isT x = true) : x = some (.bool true) := by
  unfold isT at h
  split at h
  · rfl
  · cases h
def okSet (hs : List Str) : D → Bool
  | .tuple ds => match strsOf ds with
    | some S => isT (runP 3 m_is_set_among [T S, T hs]) && S.all PyData.strOk && ((hs.filter fun a => !S.contains a).isEmpty || isT (runP 3 m_is_set_among [T (hs.filter fun a => !S.contains a), T hs]))
    | none => false
  | _ => false
def good (hs : List Str) : Bool :=
  hs.all PyData.strOk && hs.all (fun a => decide (a.length ≤ 8)) && !hs.isEmpty && decide (hs.length ≤ 5) && decide hs.Nodup && isT (runP 4 m_is_houses [T hs])
  && hs.all (fun a => hs.all fun b => a == b || isT (runP 2 m_is_wire_among [pr (a, b), .dict (kvD (dctT hs))]))
  && (match runP 4 m__law_sets [T hs] with
    | some (.list ss) => decide (ss.length ≤ 100000) && ss.all (okSet hs)
    | _ => false)
def hsAll : List (List Str) := rots.flatMap fun L => (List.range 5).map fun d => sortS (L.take (1 + d))
theorem all_good : hsAll.all good = true := by decide +kernel
end G06

namespace G06
open PySem PySem.Spec PyProof.Rows L2 RZ AP
def net (hs : List Str) (ws : List (Str × Str)) : D := .tuple [T hs, .tuple (ws.map pr)]
def okW (hs : List Str) (ws : List (Str × Str)) : Prop := ∀ p ∈ ws, p.1 ∈ hs ∧ p.2 ∈ hs ∧ p.1 ≠ p.2
theorem rot_len : ∀ L ∈ rots, L.length = 8 := by decide +kernel
theorem gEq_int (i j : Int) : gEq (.int i) (.int j) = some (.bool (i == j)) := rfl
theorem gNe_str (x y : Str) : gNe (.str x) (.str y) = some (.bool (!decide (x = y))) := rfl
structure Gd (hs : List Str) : Prop where
  ok : ∀ a ∈ hs, PyData.strOk a = true
  sh : ∀ a ∈ hs, a.length ≤ 8
  ne : hs ≠ []
  l5 : hs.length ≤ 5
  nd : hs.Nodup
  ho : runP 4 m_is_houses [T hs] = some (.bool true)
  wi : ∀ a ∈ hs, ∀ b ∈ hs, a ≠ b → runP 2 m_is_wire_among [pr (a, b), .dict (kvD (dctT hs))] = some (.bool true)
  se : ∃ ss, runP 4 m__law_sets [T hs] = some (.list ss) ∧ ss.length ≤ 100000 ∧ ∀ s ∈ ss, okSet hs s = true
theorem gd_of {hs : List Str} (h : hs ∈ hsAll) : Gd hs := by
  have g : good hs = true := List.all_eq_true.mp all_good hs h
  unfold good at g
  simp only [Bool.and_eq_true, List.all_eq_true, decide_eq_true_eq, Bool.not_eq_true', List.isEmpty_eq_false_iff, Bool.or_eq_true, beq_iff_eq] at g
  obtain ⟨⟨⟨⟨⟨⟨⟨g1, g2⟩, g3⟩, g4⟩, g5⟩, g6⟩, g7⟩, g8⟩ := g
  refine ⟨g1, g2, g3, g4, g5, isT_eq g6, fun a ha b hb ne => isT_eq ((g7 a ha b hb).resolve_left ne), ?_⟩
  split at g8
  · rename_i ss e
    simp only [Bool.and_eq_true, decide_eq_true_eq] at g8
    exact ⟨ss, e, g8.1, List.all_eq_true.mp g8.2⟩
  · cases g8
theorem web_ev {fo : MO} (h : FeedOk fo) : ∃ hs ws fo', runF 9 m__law_web fo [.int 5, .int 8] = some (net hs ws, fo') ∧ hs ∈ hsAll ∧ ws.length ≤ 16 ∧ okW hs ws ∧ FeedOk fo' := by
  obtain ⟨L, f1, e1, hL, h1⟩ := names_ev h
  obtain ⟨d, f2, e2, d0, d5, h2⟩ := draw h1 (many := 5) (by decide) (by decide)
  have hl := rot_len L hL
  have hhs : sortS (L.take (1 + d).toNat) ∈ hsAll := List.mem_flatMap.mpr ⟨L, hL, List.mem_map.mpr ⟨d.toNat, List.mem_range.mpr (by omega), by rw [show (1 + d).toNat = 1 + d.toNat by omega]⟩⟩
  have es : gSorted [.list (cutD (L.map PyData.str) none (some (1 + d)))] = some (.list ((sortS (L.take (1 + d).toNat)).map .str)) := by
    rw [cut_take _ (by omega), ← List.map_take]
    exact gSorted_strs (by rw [List.length_take]; omega)
  generalize sortS (L.take (1 + d).toNat) = hs at hhs es
  have gd := gd_of hhs
  have cnt : ∃ (n : Int) (f3 : MO), FeedOk f3 ∧ 0 ≤ n ∧ n ≤ 8 ∧ (0 < n → 1 < hs.length) ∧ mRange (mCons (mIf (mTest (mOp gGtU (mCB gLen (mCons (mVar 4) mNil)) (mC (.int 1)))) (mCallF 2 (runF 7 m__law_draw) (mCons (mVar 0) (mCons (mOp gAddU (mVar 2) (mC (.int 1))) mNil))) (mC (.int 0))) mNil)
      ⟨[some (.m 0), some (.d (.int 5)), some (.d (.int 8)), none, some (.d (T hs)), some (.m 1), none, none, none], [f2, .l []]⟩ = some (rangeD n.toNat, [f3, .l []]) := by
    by_cases h1h : (1 : Int) < (hs.map PyData.str).length
    · obtain ⟨n, f3, e3, n0, n9, h3⟩ := draw h2 (many := 9) (by decide) (by decide)
      refine ⟨n, f3, h3, n0, by omega, fun _ => by simp only [List.length_map] at h1h; omega, ?_⟩
      simp only [mSeq, mPut, mOp, mVar, mC, mIfS, mTest, mTr, mNot, mAsg, mgName, mgTup, mgCons, mgNil, mCB, mCons, mNil, mRet, mNext, mPar, mParO, mLstN, mAnd, mOr, mAndV, mOrV, mNotV, mIf, mTup, mLst, mSl, mPart, mNoPart, mCall, mCallK, mCallF, mDrop, mDat, mApp, mChain, mIsi, mRange, mItems, mEnum, mAnyI, mYes, seqOf, frz, isiB, truD, perm2, perm3, AP.S.on, vw, vws, dats, List.getElem?_cons_zero, List.getElem?_cons_succ, List.set_cons_zero, List.set_cons_succ, List.map_cons, List.map_nil, List.length_cons, List.length_nil, List.cons_append, List.nil_append, and_self, if_true, decide_true, decide_false, Bool.and_self, Bool.not_true, Bool.not_false, Nat.reduceAdd, Nat.reduceLeDiff, Nat.zero_add, Int.reduceLT, gLen, T, gGtU, g2I, oel, h1h, gAddU, Int.reduceAdd, e3]
      rw [if_pos (by omega)]
    · refine ⟨0, f2, h2, by decide, by decide, fun z => absurd z (by decide), ?_⟩
      simp only [mSeq, mPut, mOp, mVar, mC, mIfS, mTest, mTr, mNot, mAsg, mgName, mgTup, mgCons, mgNil, mCB, mCons, mNil, mRet, mNext, mPar, mParO, mLstN, mAnd, mOr, mAndV, mOrV, mNotV, mIf, mTup, mLst, mSl, mPart, mNoPart, mCall, mCallK, mCallF, mDrop, mDat, mApp, mChain, mIsi, mRange, mItems, mEnum, mAnyI, mYes, seqOf, frz, isiB, truD, perm2, perm3, AP.S.on, vw, vws, dats, List.getElem?_cons_zero, List.getElem?_cons_succ, List.set_cons_zero, List.set_cons_succ, List.map_cons, List.map_nil, List.length_cons, List.length_nil, List.cons_append, List.nil_append, and_self, if_true, decide_true, decide_false, Bool.and_self, Bool.not_true, Bool.not_false, Nat.reduceAdd, Nat.reduceLeDiff, Nat.zero_add, Int.reduceLT, gLen, T, gGtU, g2I, oel, h1h]
      rfl
  obtain ⟨n, f3, h3, n0, n8, nn, e3⟩ := cnt
  have loop := mFor_eval (g := mgName 3) (b := (mSeq (mAsg (mCallF 2 (runF 2 m__law_any) (mCons (mVar 0) (mCons (mVar 4) mNil))) (mgName 6)) (mSeq (mAsg (mCallF 2 (runF 2 m__law_any) (mCons (mVar 0) (mCons (mDat (mLc (mAnyI (mVar 4)) (mgName 8) (mTest (mOp gNe (mVar 8) (mVar 6))) (mVar 8) [8])) mNil))) (mgName 7)) (mSeq (mApp (mVar 5) (mTup (mCons (mVar 6) (mCons (mVar 7) mNil)))) (mIfS (mTest (mOp gEq (mCallF 2 (runF 7 m__law_draw) (mCons (mVar 0) (mCons (mC (.int 5)) mNil))) (mC (.int 0)))) (mApp (mVar 5) (mTup (mCons (mVar 6) (mCons (mVar 7) mNil)))) mNext)))))
    (P := fun k s => ∃ f a3 a6 a7 a8 ws, FeedOk f ∧ s = ⟨[some (.m 0), some (.d (.int 5)), some (.d (.int 8)), a3, some (.d (T hs)), some (.m 1), a6, a7, a8], [f, .l (List.map pr ws)]⟩ ∧ okW hs ws ∧ ws.length ≤ 2 * k)
    e3 ⟨f3, none, none, none, none, [], h3, rfl, by intro p hp; simp at hp, Nat.zero_le _⟩ ?_
  · obtain ⟨s', el, f, a3, a6, a7, a8, ws, hf, rfl, ow, wl⟩ := loop
    refine ⟨hs, ws, f, ?_, hhs, ?_, ow, hf⟩
    · show retF (m__law_web ⟨[some (.m 0), some (.d (.int 5)), some (.d (.int 8)), none, none, none, none, none, none], [fo]⟩) = _
      unfold m__law_web
      simp only [mSeq, mPut, mOp, mVar, mC, mIfS, mTest, mTr, mNot, mAsg, mgName, mgTup, mgCons, mgNil, mCB, mCons, mNil, mRet, mNext, mPar, mParO, mLstN, mAnd, mOr, mAndV, mOrV, mNotV, mIf, mTup, mLst, mSl, mPart, mNoPart, mCall, mCallK, mCallF, mDrop, mDat, mApp, mChain, mIsi, mRange, mItems, mEnum, mAnyI, mYes, seqOf, frz, isiB, truD, perm2, perm3, AP.S.on, vw, vws, dats, List.getElem?_cons_zero, List.getElem?_cons_succ, List.set_cons_zero, List.set_cons_succ, List.map_cons, List.map_nil, List.length_cons, List.length_nil, List.cons_append, List.nil_append, and_self, if_true, decide_true, decide_false, Bool.and_self, Bool.not_true, Bool.not_false, Nat.reduceAdd, Nat.reduceLeDiff, Nat.zero_add, Int.reduceLT, e1, gAddU, g2I, oel, e2, gSl, es, gTuple]
      rw [show PyData.tuple (hs.map PyData.str) = T hs from rfl, el]
      simp only [mSeq, mPut, mOp, mVar, mC, mIfS, mTest, mTr, mNot, mAsg, mgName, mgTup, mgCons, mgNil, mCB, mCons, mNil, mRet, mNext, mPar, mParO, mLstN, mAnd, mOr, mAndV, mOrV, mNotV, mIf, mTup, mLst, mSl, mPart, mNoPart, mCall, mCallK, mCallF, mDrop, mDat, mApp, mChain, mIsi, mRange, mItems, mEnum, mAnyI, mYes, seqOf, frz, isiB, truD, perm2, perm3, AP.S.on, vw, vws, dats, List.getElem?_cons_zero, List.getElem?_cons_succ, List.set_cons_zero, List.set_cons_succ, List.map_cons, List.map_nil, List.length_cons, List.length_nil, List.cons_append, List.nil_append, and_self, if_true, decide_true, decide_false, Bool.and_self, Bool.not_true, Bool.not_false, Nat.reduceAdd, Nat.reduceLeDiff, Nat.zero_add, Int.reduceLT, T, gTuple, retF]
      rfl
    · have : (rangeD n.toNat).length = n.toNat := by simp [rangeD]
      omega
  · rintro i d s hi ⟨f, a3, a6, a7, a8, ws, hf, rfl, ow, wl⟩
    have hil : i < n.toNat := by
      have := (List.getElem?_eq_some_iff.mp hi).1
      simpa [rangeD] using this
    have h2h := nn (by omega)
    obtain ⟨x, g1, q1, hx, k1⟩ := any_t hf (L := hs.map .str) (by simpa using gd.ne) (by have := gd.l5; simp; omega)
    obtain ⟨a, ha, rfl⟩ := List.mem_map.mp hx
    obtain ⟨y, g2, q2, hy, k2⟩ := any_l k1 (L := (((hs.map PyData.str).filter fun z => match z with
      | .str z => !decide (z = a)
      | _ => false)).map id) (by
        rw [List.map_id]
        obtain ⟨b, hb, nb⟩ : ∃ b ∈ hs, b ≠ a := by
          match hs, gd.nd, h2h with
          | u :: v :: r, nd, _ =>
            by_cases e : u = a
            · exact ⟨v, by simp, fun z => by subst z; subst e; simp at nd⟩
            · exact ⟨u, by simp, e⟩
        intro e
        have : PyData.str b ∈ (hs.map PyData.str).filter fun z => match z with
          | .str z => !decide (z = a)
          | _ => false := List.mem_filter.mpr ⟨List.mem_map.mpr ⟨b, hb, rfl⟩, by simp [nb]⟩
        rw [e] at this
        cases this) (by
        have := gd.l5
        have l2 := List.length_filter_le (fun z => match z with
          | .str z => !decide (z = a)
          | _ => false) (hs.map PyData.str)
        simp only [List.length_map] at l2 ⊢
        omega)
    rw [List.map_id] at hy
    obtain ⟨hy1, hy2⟩ := List.mem_filter.mp hy
    obtain ⟨b, hb, rfl⟩ := List.mem_map.mp hy1
    have nb : b ≠ a := by simpa using hy2
    obtain ⟨v, g3, q3, v0, v5, k3⟩ := draw k2 (many := 5) (by decide) (by decide)
    have lcx : mLc (mAnyI (mVar 4)) (mgName 8) (mTest (mOp gNe (mVar 8) (mVar 6))) (mVar 8) [8] ⟨[some (.m 0), some (.d (.int 5)), some (.d (.int 8)), some (.d d), some (.d (T hs)), some (.m 1), some (.d (.str a)), a7, a8], [g1, .l (List.map pr ws)]⟩ = some (.l ((((hs.map PyData.str).filter fun z => match z with
      | .str z => !decide (z = a)
      | _ => false)).map id), [g1, .l (List.map pr ws)]) := by
      refine mLc_eval (items := hs.map .str) rfl (by have := gd.l5; simp; omega) fun z hz acc => ?_
      obtain ⟨c, hc, rfl⟩ := List.mem_map.mp hz
      refine ⟨⟨[some (.m 0), some (.d (.int 5)), some (.d (.int 8)), some (.d d), some (.d (T hs)), some (.m 1), some (.d (.str a)), a7, some (.d (.str c))], [g1, .l (List.map pr ws)] ++ [.l acc]⟩, rfl, ?_, fun _ => rfl⟩
      simp only [mSeq, mPut, mOp, mVar, mC, mIfS, mTest, mTr, mNot, mAsg, mgName, mgTup, mgCons, mgNil, mCB, mCons, mNil, mRet, mNext, mPar, mParO, mLstN, mAnd, mOr, mAndV, mOrV, mNotV, mIf, mTup, mLst, mSl, mPart, mNoPart, mCall, mCallK, mCallF, mDrop, mDat, mApp, mChain, mIsi, mRange, mItems, mEnum, mAnyI, mYes, seqOf, frz, isiB, truD, perm2, perm3, AP.S.on, vw, vws, dats, List.getElem?_cons_zero, List.getElem?_cons_succ, List.set_cons_zero, List.set_cons_succ, List.map_cons, List.map_nil, List.length_cons, List.length_nil, List.cons_append, List.nil_append, and_self, if_true, decide_true, decide_false, Bool.and_self, Bool.not_true, Bool.not_false, Nat.reduceAdd, Nat.reduceLeDiff, Nat.zero_add, Int.reduceLT, gNe_str]
    have wl2 : (List.map pr ws).length < 100000 := by simp; omega
    refine ⟨⟨[some (.m 0), some (.d (.int 5)), some (.d (.int 8)), some (.d d), some (.d (T hs)), some (.m 1), a6, a7, a8], [f, .l (List.map pr ws)]⟩, ?_⟩
    have nt : T hs = .tuple (hs.map .str) := rfl
    by_cases hv : v = 0
    · refine ⟨⟨[some (.m 0), some (.d (.int 5)), some (.d (.int 8)), some (.d d), some (.d (T hs)), some (.m 1), some (.d (.str a)), some (.d (.str b)), a8], [g3, .l (List.map pr (ws ++ [(a, b), (a, b)]))]⟩, rfl, ?_, g3, some (.d d), some (.d (.str a)), some (.d (.str b)), a8, ws ++ [(a, b), (a, b)], k3, rfl, ?_, ?_⟩
      · have wl3 : (List.map pr ws ++ [PyData.tuple [.str a, .str b]]).length < 100000 := by simp; omega
        rw [nt] at lcx ⊢
        simp only [mSeq, mPut, mOp, mVar, mC, mIfS, mTest, mTr, mNot, mAsg, mgName, mgTup, mgCons, mgNil, mCB, mCons, mNil, mRet, mNext, mPar, mParO, mLstN, mAnd, mOr, mAndV, mOrV, mNotV, mIf, mTup, mLst, mSl, mPart, mNoPart, mCall, mCallK, mCallF, mDrop, mDat, mApp, mChain, mIsi, mRange, mItems, mEnum, mAnyI, mYes, seqOf, frz, isiB, truD, perm2, perm3, AP.S.on, vw, vws, dats, List.getElem?_cons_zero, List.getElem?_cons_succ, List.set_cons_zero, List.set_cons_succ, List.map_cons, List.map_nil, List.length_cons, List.length_nil, List.cons_append, List.nil_append, and_self, if_true, decide_true, decide_false, Bool.and_self, Bool.not_true, Bool.not_false, Nat.reduceAdd, Nat.reduceLeDiff, Nat.zero_add, Int.reduceLT, q1, lcx, q2, wl2, q3, hv, gEq_int]
        simp only [BEq.rfl, if_true]
        simp [pr]
        omega
      · intro p hp
        rcases List.mem_append.mp hp with z | z
        · exact ow p z
        · simp at z; subst z; exact ⟨ha, hb, fun e => nb e.symm⟩
      · simp; omega
    · refine ⟨⟨[some (.m 0), some (.d (.int 5)), some (.d (.int 8)), some (.d d), some (.d (T hs)), some (.m 1), some (.d (.str a)), some (.d (.str b)), a8], [g3, .l (List.map pr (ws ++ [(a, b)]))]⟩, rfl, ?_, g3, some (.d d), some (.d (.str a)), some (.d (.str b)), a8, ws ++ [(a, b)], k3, rfl, ?_, ?_⟩
      · have e0 : (v == 0) = false := by simpa using hv
        rw [nt] at lcx ⊢
        simp only [mSeq, mPut, mOp, mVar, mC, mIfS, mTest, mTr, mNot, mAsg, mgName, mgTup, mgCons, mgNil, mCB, mCons, mNil, mRet, mNext, mPar, mParO, mLstN, mAnd, mOr, mAndV, mOrV, mNotV, mIf, mTup, mLst, mSl, mPart, mNoPart, mCall, mCallK, mCallF, mDrop, mDat, mApp, mChain, mIsi, mRange, mItems, mEnum, mAnyI, mYes, seqOf, frz, isiB, truD, perm2, perm3, AP.S.on, vw, vws, dats, List.getElem?_cons_zero, List.getElem?_cons_succ, List.set_cons_zero, List.set_cons_succ, List.map_cons, List.map_nil, List.length_cons, List.length_nil, List.cons_append, List.nil_append, and_self, if_true, decide_true, decide_false, Bool.and_self, Bool.not_true, Bool.not_false, Nat.reduceAdd, Nat.reduceLeDiff, Nat.zero_add, Int.reduceLT, q1, lcx, q2, wl2, q3, e0, gEq_int]
        simp [pr]
      · intro p hp
        rcases List.mem_append.mp hp with z | z
        · exact ow p z
        · simp at z; subst z; exact ⟨ha, hb, fun e => nb e.symm⟩
      · simp; omega
end G06

namespace G06
open PySem PySem.Spec PyProof.Rows L2 RZ AP
theorem enum_inv : ∀ (xs : List D) (k : Int) (i : Nat) (d : D), (enumD k xs)[i]? = some d → ∃ x, xs[i]? = some x ∧ d = .tuple [.int (k + i), x] := by
  intro xs k i d h
  have hl := (List.getElem?_eq_some_iff.mp h).1
  rw [enumD_len] at hl
  refine ⟨xs[i], List.getElem?_eq_getElem hl, ?_⟩
  have := enumD_get xs k i xs[i] (List.getElem?_eq_getElem hl)
  rw [h] at this
  exact Option.some.inj this
theorem pair_ev (hs : List Str) (ws : List (Str × Str)) : runP 1 m_is_pair [net hs ws] = some (.bool true) := rfl
theorem lets_ev {hs : List Str} {ws : List (Str × Str)} (g : Gd hs) (ow : okW hs ws) (wl : ws.length ≤ 16) : runP 7 m_lets_net [net hs ws] = some (.int ws.length) := by
  show retD (m_lets_net ⟨[some (.d (net hs ws)), none, none, none, none, none, none], []⟩) = _
  have hp := pair_ev hs ws
  have ho := g.ho
  have dc : mDc (mAnyI (mVar 2)) (mgName 6) mYes (mVar 6) (mC (.bool true)) [6] ⟨[some (.d (net hs ws)), none, some (.d (T hs)), some (.d (.tuple (ws.map pr))), none, none, none], []⟩ = some (.k (dctT hs), []) := by
    refine mDc_eval (xs := hs) rfl g.nd (by have := g.l5; omega) fun x hx acc => ?_
    exact ⟨⟨[some (.d (net hs ws)), none, some (.d (T hs)), some (.d (.tuple (ws.map pr))), none, none, some (.d (.str x))], [] ++ [.k acc]⟩, rfl, rfl, rfl, rfl⟩
  obtain ⟨s', el, a4, a5, a6, rfl⟩ := mFor_eval (im := mEnum (mCons (mVar 3) mNil)) (g := mgTup 2 (mgCons (mgName 4) (mgCons (mgName 5) mgNil))) (b := mIfS (mNot (mTr (mCall 2 (runP 2 m_is_wire_among) (mCons (mVar 5) (mCons (mVar 1) mNil))))) mNever mNext)
    (s := ⟨[some (.d (net hs ws)), some (.d (.dict (kvD (dctT hs)))), some (.d (T hs)), some (.d (.tuple (ws.map pr))), none, none, none], []⟩) (items := enumD 0 (ws.map pr)) (o1 := [])
    (fun k s => ∃ a4 a5 a6, s = (⟨[some (.d (net hs ws)), some (.d (.dict (kvD (dctT hs)))), some (.d (T hs)), some (.d (.tuple (ws.map pr))), a4, a5, a6], []⟩ : S)) (by simp only [mSeq, mPut, mOp, mVar, mC, mIfS, mTest, mTr, mNot, mAsg, mgName, mgTup, mgCons, mgNil, mCB, mCons, mNil, mRet, mNext, mPar, mParO, mLstN, mAnd, mOr, mAndV, mOrV, mNotV, mIf, mTup, mLst, mSl, mPart, mNoPart, mCall, mCallK, mCallF, mDrop, mDat, mApp, mChain, mIsi, mRange, mItems, mEnum, mAnyI, mYes, seqOf, frz, isiB, truD, perm2, perm3, AP.S.on, vw, vws, dats, List.getElem?_cons_zero, List.getElem?_cons_succ, List.set_cons_zero, List.set_cons_succ, List.map_cons, List.map_nil, List.length_cons, List.length_nil, List.cons_append, List.nil_append, and_self, if_true, decide_true, decide_false, Bool.and_self, Bool.not_true, Bool.not_false, Nat.reduceAdd, Nat.reduceLeDiff, Nat.zero_add, Int.reduceLT]) ⟨none, none, none, rfl⟩ (by
      rintro i d s hi ⟨a4, a5, a6, rfl⟩
      obtain ⟨x, hx, rfl⟩ := enum_inv _ _ _ _ hi
      obtain ⟨p, hp, rfl⟩ := List.mem_map.mp (List.mem_of_getElem? hx)
      obtain ⟨o1, o2, o3⟩ := ow p hp
      have e := g.wi p.1 o1 p.2 o2 o3
      refine ⟨⟨[some (.d (net hs ws)), some (.d (.dict (kvD (dctT hs)))), some (.d (T hs)), some (.d (.tuple (ws.map pr))), some (.d (.int (0 + i))), some (.d (pr p)), a6], []⟩, ⟨[some (.d (net hs ws)), some (.d (.dict (kvD (dctT hs)))), some (.d (T hs)), some (.d (.tuple (ws.map pr))), some (.d (.int (0 + i))), some (.d (pr p)), a6], []⟩, rfl, ?_, _, _, _, rfl⟩
      simp only [mSeq, mPut, mOp, mVar, mC, mIfS, mTest, mTr, mNot, mAsg, mgName, mgTup, mgCons, mgNil, mCB, mCons, mNil, mRet, mNext, mPar, mParO, mLstN, mAnd, mOr, mAndV, mOrV, mNotV, mIf, mTup, mLst, mSl, mPart, mNoPart, mCall, mCallK, mCallF, mDrop, mDat, mApp, mChain, mIsi, mRange, mItems, mEnum, mAnyI, mYes, seqOf, frz, isiB, truD, perm2, perm3, AP.S.on, vw, vws, dats, List.getElem?_cons_zero, List.getElem?_cons_succ, List.set_cons_zero, List.set_cons_succ, List.map_cons, List.map_nil, List.length_cons, List.length_nil, List.cons_append, List.nil_append, and_self, if_true, decide_true, decide_false, Bool.and_self, Bool.not_true, Bool.not_false, Nat.reduceAdd, Nat.reduceLeDiff, Nat.zero_add, Int.reduceLT, show runP 2 m_is_wire_among [pr p, .dict (kvD (dctT hs))] = some (.bool true) from e])
  unfold m_lets_net
  unfold net at hp dc el ⊢
  simp only [mSeq, mPut, mOp, mVar, mC, mIfS, mTest, mTr, mNot, mAsg, mgName, mgTup, mgCons, mgNil, mCB, mCons, mNil, mRet, mNext, mPar, mParO, mLstN, mAnd, mOr, mAndV, mOrV, mNotV, mIf, mTup, mLst, mSl, mPart, mNoPart, mCall, mCallK, mCallF, mDrop, mDat, mApp, mChain, mIsi, mRange, mItems, mEnum, mAnyI, mYes, seqOf, frz, isiB, truD, perm2, perm3, AP.S.on, vw, vws, dats, List.getElem?_cons_zero, List.getElem?_cons_succ, List.set_cons_zero, List.set_cons_succ, List.map_cons, List.map_nil, List.length_cons, List.length_nil, List.cons_append, List.nil_append, and_self, if_true, decide_true, decide_false, Bool.and_self, Bool.not_true, Bool.not_false, Nat.reduceAdd, Nat.reduceLeDiff, Nat.zero_add, Int.reduceLT, hp, ho, dc]
  unfold T at el ⊢
  simp only [mSeq, mPut, mOp, mVar, mC, mIfS, mTest, mTr, mNot, mAsg, mgName, mgTup, mgCons, mgNil, mCB, mCons, mNil, mRet, mNext, mPar, mParO, mLstN, mAnd, mOr, mAndV, mOrV, mNotV, mIf, mTup, mLst, mSl, mPart, mNoPart, mCall, mCallK, mCallF, mDrop, mDat, mApp, mChain, mIsi, mRange, mItems, mEnum, mAnyI, mYes, seqOf, frz, isiB, truD, perm2, perm3, AP.S.on, vw, vws, dats, List.getElem?_cons_zero, List.getElem?_cons_succ, List.set_cons_zero, List.set_cons_succ, List.map_cons, List.map_nil, List.length_cons, List.length_nil, List.cons_append, List.nil_append, and_self, if_true, decide_true, decide_false, Bool.and_self, Bool.not_true, Bool.not_false, Nat.reduceAdd, Nat.reduceLeDiff, Nat.zero_add, Int.reduceLT, hp, el, gLen, retD]
  simp
theorem need_ev {hs : List Str} {ws : List (Str × Str)} (g : Gd hs) (ow : okW hs ws) (wl : ws.length ≤ 16) : runP 1 m_need_net [net hs ws] = some .none := by
  show retD (m_need_net ⟨[some (.d (net hs ws))], []⟩) = _
  unfold m_need_net
  simp only [mSeq, mPut, mOp, mVar, mC, mIfS, mTest, mTr, mNot, mAsg, mgName, mgTup, mgCons, mgNil, mCB, mCons, mNil, mRet, mNext, mPar, mParO, mLstN, mAnd, mOr, mAndV, mOrV, mNotV, mIf, mTup, mLst, mSl, mPart, mNoPart, mCall, mCallK, mCallF, mDrop, mDat, mApp, mChain, mIsi, mRange, mItems, mEnum, mAnyI, mYes, seqOf, frz, isiB, truD, perm2, perm3, AP.S.on, vw, vws, dats, List.getElem?_cons_zero, List.getElem?_cons_succ, List.set_cons_zero, List.set_cons_succ, List.map_cons, List.map_nil, List.length_cons, List.length_nil, List.cons_append, List.nil_append, and_self, if_true, decide_true, decide_false, Bool.and_self, Bool.not_true, Bool.not_false, Nat.reduceAdd, Nat.reduceLeDiff, Nat.zero_add, Int.reduceLT, lets_ev g ow wl, retD]
theorem needh_ev {hs S : List Str} {ws : List (Str × Str)} (h : runP 3 m_is_set_among [T S, T hs] = some (.bool true)) : runP 2 m_need_houses [net hs ws, T S] = some .none := by
  show retD (m_need_houses ⟨[some (.d (net hs ws)), some (.d (T S))], []⟩) = _
  unfold m_need_houses
  have e0 : gIx (net hs ws) (.int 0) = some (T hs) := rfl
  simp only [mSeq, mPut, mOp, mVar, mC, mIfS, mTest, mTr, mNot, mAsg, mgName, mgTup, mgCons, mgNil, mCB, mCons, mNil, mRet, mNext, mPar, mParO, mLstN, mAnd, mOr, mAndV, mOrV, mNotV, mIf, mTup, mLst, mSl, mPart, mNoPart, mCall, mCallK, mCallF, mDrop, mDat, mApp, mChain, mIsi, mRange, mItems, mEnum, mAnyI, mYes, seqOf, frz, isiB, truD, perm2, perm3, AP.S.on, vw, vws, dats, List.getElem?_cons_zero, List.getElem?_cons_succ, List.set_cons_zero, List.set_cons_succ, List.map_cons, List.map_nil, List.length_cons, List.length_nil, List.cons_append, List.nil_append, and_self, if_true, decide_true, decide_false, Bool.and_self, Bool.not_true, Bool.not_false, Nat.reduceAdd, Nat.reduceLeDiff, Nat.zero_add, Int.reduceLT, e0, h, retD]
/-! the wires that a test lets -/
def idx (q : Str → Str → Bool) : Int → List (Str × Str) → List D
  | _, [] => []
  | k, p :: r => if q p.1 p.2 = true then .int k :: idx q (k + 1) r else idx q (k + 1) r
def pE (q : Str → Str → Bool) : D → Bool
  | .tuple [_, .tuple [.str a, .str b]] => q a b
  | _ => false
def fE : D → D
  | .tuple (k :: _) => k
  | d => d
theorem idx_enum (q : Str → Str → Bool) : ∀ (ws : List (Str × Str)) (k : Int), ((enumD k (ws.map pr)).filter (pE q)).map fE = idx q k ws
  | [], k => rfl
  | p :: r, k => by
    have e : enumD k ((p :: r).map pr) = .tuple [.int k, pr p] :: enumD (k + 1) (r.map pr) := rfl
    rw [e]
    have e2 : pE q (.tuple [.int k, pr p]) = q p.1 p.2 := rfl
    unfold idx
    by_cases h : q p.1 p.2 = true
    · rw [if_pos h, List.filter_cons_of_pos (by rw [e2]; exact h), List.map_cons, idx_enum q r (k + 1)]
      rfl
    · rw [if_neg h, List.filter_cons_of_neg (by rw [e2]; exact h), idx_enum q r (k + 1)]
def pR (q : Str → Str → Bool) (ws : List (Str × Str)) : D → Bool
  | .int k => (match ws[k.toNat]? with
    | some p => q p.1 p.2
    | none => false)
  | _ => false
theorem idx_range' (q : Str → Str → Bool) (wT : List (Str × Str)) : ∀ (ws : List (Str × Str)) (k : Nat), (∀ i, wT[k + i]? = ws[i]?) → (((List.range' k ws.length).map fun (i : Nat) => PyData.int (i : Int)).filter (pR q wT)) = idx q k ws
  | [], k, _ => rfl
  | p :: r, k, h => by
    rw [List.length_cons, List.range'_succ, List.map_cons]
    have e2 : pR q wT (.int (k : Int)) = q p.1 p.2 := by
      have := h 0
      simp only [Nat.add_zero, List.getElem?_cons_zero] at this
      simp only [pR, Int.toNat_natCast, this]
    have ih := idx_range' q wT r (k + 1) fun i => by
      have := h (i + 1)
      rw [List.getElem?_cons_succ] at this
      rw [show k + 1 + i = k + (i + 1) by omega]
      exact this
    unfold idx
    by_cases hq : q p.1 p.2 = true
    · rw [if_pos hq, List.filter_cons_of_pos (by rw [e2]; exact hq), ih]
      rfl
    · rw [if_neg hq, List.filter_cons_of_neg (by rw [e2]; exact hq), ih]
      rfl
theorem idx_range (q : Str → Str → Bool) (ws : List (Str × Str)) : ((rangeD ws.length).filter (pR q ws)) = idx q 0 ws := by
  have := idx_range' q ws ws 0 fun i => by rw [Nat.zero_add]
  rw [← List.range_eq_range'] at this
  exact this
theorem idx_congr {q q' : Str → Str → Bool} : ∀ (ws : List (Str × Str)) (k : Int), (∀ p ∈ ws, q p.1 p.2 = q' p.1 p.2) → idx q k ws = idx q' k ws
  | [], _, _ => rfl
  | p :: r, k, h => by
    unfold idx
    rw [h p List.mem_cons_self, idx_congr r (k + 1) fun y hy => h y (List.mem_cons_of_mem _ hy)]
end G06

namespace G06
open PySem PySem.Spec PyProof.Rows L2 RZ AP
theorem ix0 (hs : List Str) (ws : List (Str × Str)) : gIx (net hs ws) (.int 0) = some (T hs) := rfl
theorem ix1 (hs : List Str) (ws : List (Str × Str)) : gIx (net hs ws) (.int 1) = some (.tuple (ws.map pr)) := rfl
theorem frz_l (xs : List D) : frz (.l xs) = .list xs := rfl
def qin (S : List Str) (a b : Str) : Bool := !S.contains a && S.contains b
def qout (S : List Str) (a b : Str) : Bool := S.contains a && !S.contains b
def qbt (x y : Str) (a b : Str) : Bool := a == x && b == y
theorem into_ev {hs S : List Str} {ws : List (Str × Str)} (g : Gd hs) (ow : okW hs ws) (wl : ws.length ≤ 16) (hS : ∀ x ∈ S, PyData.strOk x = true) (h : runP 3 m_is_set_among [T S, T hs] = some (.bool true)) :
    runP 5 m_into_of [net hs ws, T S] = some (.tuple (idx (qin S) 0 ws)) := by
  show retD (m_into_of ⟨[some (.d (net hs ws)), some (.d (T S)), none, none, none], []⟩) = _
  have lc : mLc (mEnum (mCons (mOp gIx (mVar 0) (mC (.int 1))) mNil)) (mgTup 2 (mgCons (mgName 2) (mgCons (mgTup 2 (mgCons (mgName 3) (mgCons (mgName 4) mgNil))) mgNil))) (mAnd (mTest (mOp gNotIn (mVar 3) (mVar 1))) (mTest (mOp gIn (mVar 4) (mVar 1)))) (mVar 2) [2, 3, 4]
      ⟨[some (.d (net hs ws)), some (.d (T S)), none, none, none], []⟩ = some (.l (idx (qin S) 0 ws), []) := by
    rw [← idx_enum]
    refine mLc_eval (items := enumD 0 (ws.map pr)) (by simp only [mSeq, mPut, mOp, mVar, mC, mIfS, mTest, mTr, mNot, mAsg, mgName, mgTup, mgCons, mgNil, mCB, mCons, mNil, mRet, mNext, mPar, mParO, mLstN, mAnd, mOr, mAndV, mOrV, mNotV, mIf, mTup, mLst, mSl, mPart, mNoPart, mCall, mCallK, mCallF, mDrop, mDat, mApp, mChain, mIsi, mRange, mItems, mEnum, mAnyI, mYes, seqOf, frz, isiB, truD, perm2, perm3, AP.S.on, vw, vws, dats, List.getElem?_cons_zero, List.getElem?_cons_succ, List.set_cons_zero, List.set_cons_succ, List.map_cons, List.map_nil, List.length_cons, List.length_nil, List.cons_append, List.nil_append, and_self, if_true, decide_true, decide_false, Bool.and_self, Bool.not_true, Bool.not_false, Nat.reduceAdd, Nat.reduceLeDiff, Nat.zero_add, Int.reduceLT, ix1]) (by rw [enumD_len, List.length_map]; omega) fun z hz acc => ?_
    obtain ⟨i, hi⟩ := List.getElem?_of_mem hz
    obtain ⟨x, hx, rfl⟩ := enum_inv _ _ _ _ hi
    obtain ⟨p, hp, rfl⟩ := List.mem_map.mp (List.mem_of_getElem? hx)
    obtain ⟨o1, o2, _⟩ := ow p hp
    refine ⟨⟨[some (.d (net hs ws)), some (.d (T S)), some (.d (.int (0 + i))), some (.d (.str p.1)), some (.d (.str p.2))], [] ++ [.l acc]⟩, rfl, ?_, fun _ => rfl⟩
    simp only [mSeq, mPut, mOp, mVar, mC, mIfS, mTest, mTr, mNot, mAsg, mgName, mgTup, mgCons, mgNil, mCB, mCons, mNil, mRet, mNext, mPar, mParO, mLstN, mAnd, mOr, mAndV, mOrV, mNotV, mIf, mTup, mLst, mSl, mPart, mNoPart, mCall, mCallK, mCallF, mDrop, mDat, mApp, mChain, mIsi, mRange, mItems, mEnum, mAnyI, mYes, seqOf, frz, isiB, truD, perm2, perm3, AP.S.on, vw, vws, dats, List.getElem?_cons_zero, List.getElem?_cons_succ, List.set_cons_zero, List.set_cons_succ, List.map_cons, List.map_nil, List.length_cons, List.length_nil, List.cons_append, List.nil_append, and_self, if_true, decide_true, decide_false, Bool.and_self, Bool.not_true, Bool.not_false, Nat.reduceAdd, Nat.reduceLeDiff, Nat.zero_add, Int.reduceLT, gNotIn_T (g.ok _ o1) hS, gIn_T (g.ok _ o2) hS]
    show _ = some (qin S p.1 p.2, _)
    unfold qin
    cases S.contains p.1 <;> rfl
  unfold m_into_of
  simp only [mSeq, mPut, mOp, mVar, mC, mIfS, mTest, mTr, mNot, mAsg, mgName, mgTup, mgCons, mgNil, mCB, mCons, mNil, mRet, mNext, mPar, mParO, mLstN, mAnd, mOr, mAndV, mOrV, mNotV, mIf, mTup, mLst, mSl, mPart, mNoPart, mCall, mCallK, mCallF, mDrop, mDat, mApp, mChain, mIsi, mRange, mItems, mEnum, mAnyI, mYes, seqOf, frz, isiB, truD, perm2, perm3, AP.S.on, vw, vws, dats, List.getElem?_cons_zero, List.getElem?_cons_succ, List.set_cons_zero, List.set_cons_succ, List.map_cons, List.map_nil, List.length_cons, List.length_nil, List.cons_append, List.nil_append, and_self, if_true, decide_true, decide_false, Bool.and_self, Bool.not_true, Bool.not_false, Nat.reduceAdd, Nat.reduceLeDiff, Nat.zero_add, Int.reduceLT, need_ev g ow wl, needh_ev (ws := ws) h, lc, gTuple, retD]
theorem out_ev {hs S : List Str} {ws : List (Str × Str)} (g : Gd hs) (ow : okW hs ws) (wl : ws.length ≤ 16) (hS : ∀ x ∈ S, PyData.strOk x = true) (h : runP 3 m_is_set_among [T S, T hs] = some (.bool true)) :
    runP 5 m_out_of [net hs ws, T S] = some (.tuple (idx (qout S) 0 ws)) := by
  show retD (m_out_of ⟨[some (.d (net hs ws)), some (.d (T S)), none, none, none], []⟩) = _
  have lc : mLc (mEnum (mCons (mOp gIx (mVar 0) (mC (.int 1))) mNil)) (mgTup 2 (mgCons (mgName 2) (mgCons (mgTup 2 (mgCons (mgName 3) (mgCons (mgName 4) mgNil))) mgNil))) (mAnd (mTest (mOp gIn (mVar 3) (mVar 1))) (mTest (mOp gNotIn (mVar 4) (mVar 1)))) (mVar 2) [2, 3, 4]
      ⟨[some (.d (net hs ws)), some (.d (T S)), none, none, none], []⟩ = some (.l (idx (qout S) 0 ws), []) := by
    rw [← idx_enum]
    refine mLc_eval (items := enumD 0 (ws.map pr)) (by simp only [mSeq, mPut, mOp, mVar, mC, mIfS, mTest, mTr, mNot, mAsg, mgName, mgTup, mgCons, mgNil, mCB, mCons, mNil, mRet, mNext, mPar, mParO, mLstN, mAnd, mOr, mAndV, mOrV, mNotV, mIf, mTup, mLst, mSl, mPart, mNoPart, mCall, mCallK, mCallF, mDrop, mDat, mApp, mChain, mIsi, mRange, mItems, mEnum, mAnyI, mYes, seqOf, frz, isiB, truD, perm2, perm3, AP.S.on, vw, vws, dats, List.getElem?_cons_zero, List.getElem?_cons_succ, List.set_cons_zero, List.set_cons_succ, List.map_cons, List.map_nil, List.length_cons, List.length_nil, List.cons_append, List.nil_append, and_self, if_true, decide_true, decide_false, Bool.and_self, Bool.not_true, Bool.not_false, Nat.reduceAdd, Nat.reduceLeDiff, Nat.zero_add, Int.reduceLT, ix1]) (by rw [enumD_len, List.length_map]; omega) fun z hz acc => ?_
    obtain ⟨i, hi⟩ := List.getElem?_of_mem hz
    obtain ⟨x, hx, rfl⟩ := enum_inv _ _ _ _ hi
    obtain ⟨p, hp, rfl⟩ := List.mem_map.mp (List.mem_of_getElem? hx)
    obtain ⟨o1, o2, _⟩ := ow p hp
    refine ⟨⟨[some (.d (net hs ws)), some (.d (T S)), some (.d (.int (0 + i))), some (.d (.str p.1)), some (.d (.str p.2))], [] ++ [.l acc]⟩, rfl, ?_, fun _ => rfl⟩
    simp only [mSeq, mPut, mOp, mVar, mC, mIfS, mTest, mTr, mNot, mAsg, mgName, mgTup, mgCons, mgNil, mCB, mCons, mNil, mRet, mNext, mPar, mParO, mLstN, mAnd, mOr, mAndV, mOrV, mNotV, mIf, mTup, mLst, mSl, mPart, mNoPart, mCall, mCallK, mCallF, mDrop, mDat, mApp, mChain, mIsi, mRange, mItems, mEnum, mAnyI, mYes, seqOf, frz, isiB, truD, perm2, perm3, AP.S.on, vw, vws, dats, List.getElem?_cons_zero, List.getElem?_cons_succ, List.set_cons_zero, List.set_cons_succ, List.map_cons, List.map_nil, List.length_cons, List.length_nil, List.cons_append, List.nil_append, and_self, if_true, decide_true, decide_false, Bool.and_self, Bool.not_true, Bool.not_false, Nat.reduceAdd, Nat.reduceLeDiff, Nat.zero_add, Int.reduceLT, gIn_T (g.ok _ o1) hS, gNotIn_T (g.ok _ o2) hS]
    show _ = some (qout S p.1 p.2, _)
    unfold qout
    cases S.contains p.1 <;> rfl
  unfold m_out_of
  simp only [mSeq, mPut, mOp, mVar, mC, mIfS, mTest, mTr, mNot, mAsg, mgName, mgTup, mgCons, mgNil, mCB, mCons, mNil, mRet, mNext, mPar, mParO, mLstN, mAnd, mOr, mAndV, mOrV, mNotV, mIf, mTup, mLst, mSl, mPart, mNoPart, mCall, mCallK, mCallF, mDrop, mDat, mApp, mChain, mIsi, mRange, mItems, mEnum, mAnyI, mYes, seqOf, frz, isiB, truD, perm2, perm3, AP.S.on, vw, vws, dats, List.getElem?_cons_zero, List.getElem?_cons_succ, List.set_cons_zero, List.set_cons_succ, List.map_cons, List.map_nil, List.length_cons, List.length_nil, List.cons_append, List.nil_append, and_self, if_true, decide_true, decide_false, Bool.and_self, Bool.not_true, Bool.not_false, Nat.reduceAdd, Nat.reduceLeDiff, Nat.zero_add, Int.reduceLT, need_ev g ow wl, needh_ev (ws := ws) h, lc, gTuple, retD]
theorem house_ev {hs : List Str} {ws : List (Str × Str)} (g : Gd hs) {a : Str} (ha : a ∈ hs) : runP 2 m_need_house [net hs ws, .str a] = some .none := by
  show retD (m_need_house ⟨[some (.d (net hs ws)), some (.d (.str a))], []⟩) = _
  have hc : hs.contains a = true := List.contains_iff_mem.mpr ha
  unfold m_need_house
  simp only [mSeq, mPut, mOp, mVar, mC, mIfS, mTest, mTr, mNot, mAsg, mgName, mgTup, mgCons, mgNil, mCB, mCons, mNil, mRet, mNext, mPar, mParO, mLstN, mAnd, mOr, mAndV, mOrV, mNotV, mIf, mTup, mLst, mSl, mPart, mNoPart, mCall, mCallK, mCallF, mDrop, mDat, mApp, mChain, mIsi, mRange, mItems, mEnum, mAnyI, mYes, seqOf, frz, isiB, truD, perm2, perm3, AP.S.on, vw, vws, dats, List.getElem?_cons_zero, List.getElem?_cons_succ, List.set_cons_zero, List.set_cons_succ, List.map_cons, List.map_nil, List.length_cons, List.length_nil, List.cons_append, List.nil_append, and_self, if_true, decide_true, decide_false, Bool.and_self, Bool.not_true, Bool.not_false, Nat.reduceAdd, Nat.reduceLeDiff, Nat.zero_add, Int.reduceLT, ix0, gNotIn_T (g.ok _ ha) g.ok, hc, retD]
theorem gEq_pr {p : Str × Str} {a b : Str} (h1 : PyData.strOk p.1 = true) (h2 : PyData.strOk p.2 = true) (h3 : PyData.strOk a = true) (h4 : PyData.strOk b = true) : gEq (pr p) (.tuple [.str a, .str b]) = some (.bool (qbt a b p.1 p.2)) := by
  have s1 : shp (pr p) = true := shp_of (canLay_pr h1 h2) (by rw [depth_pr]; decide)
  have s2 : shp (pr (a, b)) = true := shp_of (canLay_pr h3 h4) (by rw [depth_pr]; decide)
  unfold pr at s1 s2 ⊢
  unfold gEq
  simp only [s1, s2, Bool.and_self, if_true, PyData.eqv, PyData.eqvAll, Bool.and_true, qbt]
theorem betw_ev {hs : List Str} {ws : List (Str × Str)} (g : Gd hs) (ow : okW hs ws) (wl : ws.length ≤ 16) {a b : Str} (ha : a ∈ hs) (hb : b ∈ hs) :
    runP 5 m_between [net hs ws, .str a, .str b] = some (.tuple (idx (qbt a b) 0 ws)) := by
  show retD (m_between ⟨[some (.d (net hs ws)), some (.d (.str a)), some (.d (.str b)), none, none], []⟩) = _
  have lc : mLc (mEnum (mCons (mOp gIx (mVar 0) (mC (.int 1))) mNil)) (mgTup 2 (mgCons (mgName 3) (mgCons (mgName 4) mgNil))) (mTest (mOp gEq (mVar 4) (mTup (mCons (mVar 1) (mCons (mVar 2) mNil))))) (mVar 3) [3, 4]
      ⟨[some (.d (net hs ws)), some (.d (.str a)), some (.d (.str b)), none, none], []⟩ = some (.l (idx (qbt a b) 0 ws), []) := by
    rw [← idx_enum]
    refine mLc_eval (items := enumD 0 (ws.map pr)) (by simp only [mSeq, mPut, mOp, mVar, mC, mIfS, mTest, mTr, mNot, mAsg, mgName, mgTup, mgCons, mgNil, mCB, mCons, mNil, mRet, mNext, mPar, mParO, mLstN, mAnd, mOr, mAndV, mOrV, mNotV, mIf, mTup, mLst, mSl, mPart, mNoPart, mCall, mCallK, mCallF, mDrop, mDat, mApp, mChain, mIsi, mRange, mItems, mEnum, mAnyI, mYes, seqOf, frz, isiB, truD, perm2, perm3, AP.S.on, vw, vws, dats, List.getElem?_cons_zero, List.getElem?_cons_succ, List.set_cons_zero, List.set_cons_succ, List.map_cons, List.map_nil, List.length_cons, List.length_nil, List.cons_append, List.nil_append, and_self, if_true, decide_true, decide_false, Bool.and_self, Bool.not_true, Bool.not_false, Nat.reduceAdd, Nat.reduceLeDiff, Nat.zero_add, Int.reduceLT, ix1]) (by rw [enumD_len, List.length_map]; omega) fun z hz acc => ?_
    obtain ⟨i, hi⟩ := List.getElem?_of_mem hz
    obtain ⟨x, hx, rfl⟩ := enum_inv _ _ _ _ hi
    obtain ⟨p, hp, rfl⟩ := List.mem_map.mp (List.mem_of_getElem? hx)
    obtain ⟨o1, o2, _⟩ := ow p hp
    refine ⟨⟨[some (.d (net hs ws)), some (.d (.str a)), some (.d (.str b)), some (.d (.int (0 + i))), some (.d (pr p))], [] ++ [.l acc]⟩, rfl, ?_, fun _ => rfl⟩
    simp only [mSeq, mPut, mOp, mVar, mC, mIfS, mTest, mTr, mNot, mAsg, mgName, mgTup, mgCons, mgNil, mCB, mCons, mNil, mRet, mNext, mPar, mParO, mLstN, mAnd, mOr, mAndV, mOrV, mNotV, mIf, mTup, mLst, mSl, mPart, mNoPart, mCall, mCallK, mCallF, mDrop, mDat, mApp, mChain, mIsi, mRange, mItems, mEnum, mAnyI, mYes, seqOf, frz, isiB, truD, perm2, perm3, AP.S.on, vw, vws, dats, List.getElem?_cons_zero, List.getElem?_cons_succ, List.set_cons_zero, List.set_cons_succ, List.map_cons, List.map_nil, List.length_cons, List.length_nil, List.cons_append, List.nil_append, and_self, if_true, decide_true, decide_false, Bool.and_self, Bool.not_true, Bool.not_false, Nat.reduceAdd, Nat.reduceLeDiff, Nat.zero_add, Int.reduceLT, gEq_pr (g.ok _ o1) (g.ok _ o2) (g.ok _ ha) (g.ok _ hb)]
    rfl
  unfold m_between
  simp only [mSeq, mPut, mOp, mVar, mC, mIfS, mTest, mTr, mNot, mAsg, mgName, mgTup, mgCons, mgNil, mCB, mCons, mNil, mRet, mNext, mPar, mParO, mLstN, mAnd, mOr, mAndV, mOrV, mNotV, mIf, mTup, mLst, mSl, mPart, mNoPart, mCall, mCallK, mCallF, mDrop, mDat, mApp, mChain, mIsi, mRange, mItems, mEnum, mAnyI, mYes, seqOf, frz, isiB, truD, perm2, perm3, AP.S.on, vw, vws, dats, List.getElem?_cons_zero, List.getElem?_cons_succ, List.set_cons_zero, List.set_cons_succ, List.map_cons, List.map_nil, List.length_cons, List.length_nil, List.cons_append, List.nil_append, and_self, if_true, decide_true, decide_false, Bool.and_self, Bool.not_true, Bool.not_false, Nat.reduceAdd, Nat.reduceLeDiff, Nat.zero_add, Int.reduceLT, need_ev g ow wl, house_ev (ws := ws) g ha, house_ev (ws := ws) g hb, lc, gTuple, retD]
/-! the same text -/
theorem same_ev {a : D} (h1 : a.canLay0 = true) (h2 : a.showable = true) (h3 : wz a ≤ 100000) (h4 : a.depth ≤ 60) : runP 2 m__law_same [a, a] = some (.bool true) := by
  show retD (m__law_same ⟨[some (.d a), some (.d a)], []⟩) = _
  unfold m__law_same
  simp only [mSeq, mPut, mOp, mVar, mC, mIfS, mTest, mTr, mNot, mAsg, mgName, mgTup, mgCons, mgNil, mCB, mCons, mNil, mRet, mNext, mPar, mParO, mLstN, mAnd, mOr, mAndV, mOrV, mNotV, mIf, mTup, mLst, mSl, mPart, mNoPart, mCall, mCallK, mCallF, mDrop, mDat, mApp, mChain, mIsi, mRange, mItems, mEnum, mAnyI, mYes, seqOf, frz, isiB, truD, perm2, perm3, AP.S.on, vw, vws, dats, List.getElem?_cons_zero, List.getElem?_cons_succ, List.set_cons_zero, List.set_cons_succ, List.map_cons, List.map_nil, List.length_cons, List.length_nil, List.cons_append, List.nil_append, and_self, if_true, decide_true, decide_false, Bool.and_self, Bool.not_true, Bool.not_false, Nat.reduceAdd, Nat.reduceLeDiff, Nat.zero_add, Int.reduceLT, gRepr_ok h1 h2 h3 h4, gEq, retD]
theorem small_shown : ∀ i : Nat, i < 16 → (PyData.shown (.int (i : Int))).length ≤ 2 := by decide +kernel
theorem small_show : ∀ i : Nat, i < 16 → PyData.showable (.int (i : Int)) = true := by decide +kernel
structure Sm (xs : List D) : Prop where
  cl : PyData.canLayAll0 xs = true
  sh : PyData.showableAll xs = true
  wz : wzs xs ≤ 64
  dp : PyData.depthAll xs = 0
theorem idx_sm (q : Str → Str → Bool) : ∀ (ws : List (Str × Str)) (k : Nat), k + ws.length ≤ 16 → PyData.canLayAll0 (idx q k ws) = true ∧ PyData.showableAll (idx q k ws) = true ∧ wzs (idx q k ws) ≤ 4 * ws.length ∧ PyData.depthAll (idx q k ws) = 0
  | [], k, _ => by simp [idx, PyData.canLayAll0, PyData.showableAll, wzs, PyData.depthAll]
  | p :: r, k, h => by
    simp only [List.length_cons] at h
    obtain ⟨a, b, c, d⟩ := idx_sm q r (k + 1) (by omega)
    have e : ((k : Int) + 1) = ((k + 1 : Nat) : Int) := by omega
    unfold idx
    rw [e]
    by_cases hq : q p.1 p.2 = true
    · rw [if_pos hq]
      have h2 := small_shown k (by omega)
      have h3 := small_show k (by omega)
      have h4 : wz (.int (k : Int)) = (PyData.shown (.int (k : Int))).length := by simp only [wz]
      refine ⟨by rw [PyData.canLayAll0, a]; simp only [PyData.canLay0, Bool.and_self], by rw [PyData.showableAll, h3, b]; rfl, ?_, by rw [PyData.depthAll, d]; simp only [PyData.depth, Nat.max_self]⟩
      simp only [wzs, h4, List.length_cons]
      omega
    · rw [if_neg hq]
      exact ⟨a, b, by simp only [List.length_cons]; omega, d⟩
theorem idx_Sm (q : Str → Str → Bool) {ws : List (Str × Str)} (h : ws.length ≤ 16) : Sm (idx q 0 ws) := by
  obtain ⟨a, b, c, d⟩ := idx_sm q ws 0 (by omega)
  exact ⟨a, b, Nat.le_trans c (by omega), d⟩
theorem same4 {a b c d : List D} (ha : Sm a) (hb : Sm b) (hc : Sm c) (hd : Sm d) : runP 2 m__law_same [.list [.tuple a, .tuple b, .tuple c, .tuple d], .list [.tuple a, .tuple b, .tuple c, .tuple d]] = some (.bool true) :=
  same_ev (by simp [PyData.canLay0, PyData.canLayAll0, ha.cl, hb.cl, hc.cl, hd.cl]) (by simp [PyData.showable, PyData.showableAll, ha.sh, hb.sh, hc.sh, hd.sh])
    (by have := ha.wz; have := hb.wz; have := hc.wz; have := hd.wz; simp only [AP.wz, wzs]; omega) (by simp [PyData.depth, PyData.depthAll, ha.dp, hb.dp, hc.dp, hd.dp])
theorem same2 {a b : List D} (ha : Sm a) (hb : Sm b) : runP 2 m__law_same [.list [.tuple a, .tuple b], .list [.tuple a, .tuple b]] = some (.bool true) :=
  same_ev (by simp [PyData.canLay0, PyData.canLayAll0, ha.cl, hb.cl]) (by simp [PyData.showable, PyData.showableAll, ha.sh, hb.sh])
    (by have := ha.wz; have := hb.wz; simp only [AP.wz, wzs]; omega) (by simp [PyData.depth, PyData.depthAll, ha.dp, hb.dp])
end G06

namespace G06
open PySem PySem.Spec PyProof.Rows L2 RZ AP
theorem pW (ws : List (Str × Str)) {k : Nat} (h : k < ws.length) : gIx (.tuple (ws.map pr)) (.int (k : Int)) = some (pr ws[k]) := by
  have e : atI (ws.map pr) (k : Int) = some (pr ws[k]) := by
    unfold atI ixN
    rw [if_pos (by omega), if_pos (by rw [List.length_map]; omega)]
    show (ws.map pr)[((k : Int)).toNat]? = _
    rw [Int.toNat_natCast, List.getElem?_map, List.getElem?_eq_getElem h]
    rfl
  exact e
theorem pr0 (p : Str × Str) : gIx (pr p) (.int 0) = some (.str p.1) := rfl
theorem pr1 (p : Str × Str) : gIx (pr p) (.int 1) = some (.str p.2) := rfl
theorem in_range {n : Nat} {z : D} (h : z ∈ rangeD n) : ∃ k : Nat, k < n ∧ z = .int k := by
  obtain ⟨k, hk, rfl⟩ := List.mem_map.mp h
  exact ⟨k, List.mem_range.mp hk, rfl⟩
theorem pR_at (q : Str → Str → Bool) (ws : List (Str × Str)) {k : Nat} (h : k < ws.length) : pR q ws (.int (k : Int)) = q ws[k].1 ws[k].2 := by
  simp only [pR, Int.toNat_natCast, List.getElem?_eq_getElem h]
theorem gEq_Tnil {S : List Str} (h : ∀ x ∈ S, PyData.strOk x = true) : gEq (T S) (.tuple []) = some (.bool S.isEmpty) := by
  have s1 := shp_T h
  have s2 : shp (.tuple []) = true := by decide +kernel
  unfold T at s1 ⊢
  unfold gEq
  simp only [s1, s2, Bool.and_self, if_true, PyData.eqv]
  cases S with
  | nil => rfl
  | cons a r => simp only [List.map_cons, PyData.eqvAll, List.isEmpty_cons]
theorem right_ev {hs S : List Str} {ws : List (Str × Str)} (g : Gd hs) (ow : okW hs ws) (wl : ws.length ≤ 16) (hS : ∀ x ∈ S, PyData.strOk x = true) (h : runP 3 m_is_set_among [T S, T hs] = some (.bool true))
    (hR : (hs.filter fun a => !S.contains a) = [] ∨ runP 3 m_is_set_among [T (hs.filter fun a => !S.contains a), T hs] = some (.bool true)) : runP 8 m__law_is_right [net hs ws, T S] = some (.bool true) := by
  show retD (m__law_is_right ⟨[some (.d (net hs ws)), some (.d (T S)), none, none, none, none, none, none], []⟩) = _
  have ln : (ws.map pr).length = ws.length := List.length_map _
  have lc1 : mLc (mRange (mCons (mCB gLen (mCons (mOp gIx (mVar 0) (mC (.int 1))) mNil)) mNil)) (mgName 6) (mAnd (mTest (mOp gNotIn (mOp gIx (mOp gIx (mOp gIx (mVar 0) (mC (.int 1))) (mVar 6)) (mC (.int 0))) (mVar 1))) (mTest (mOp gIn (mOp gIx (mOp gIx (mOp gIx (mVar 0) (mC (.int 1))) (mVar 6)) (mC (.int 1))) (mVar 1)))) (mVar 6) [6]
      ⟨[some (.d (net hs ws)), some (.d (T S)), none, none, none, none, none, none], []⟩ = some (.l (idx (qin S) 0 ws), []) := by
    rw [← idx_range, ← List.map_id (List.filter _ _)]
    refine mLc_eval (items := rangeD ws.length) (by simp only [mSeq, mPut, mOp, mVar, mC, mIfS, mTest, mTr, mNot, mAsg, mgName, mgTup, mgCons, mgNil, mCB, mCons, mNil, mRet, mNext, mPar, mParO, mLstN, mAnd, mOr, mAndV, mOrV, mNotV, mIf, mTup, mLst, mSl, mPart, mNoPart, mCall, mCallK, mCallF, mDrop, mDat, mApp, mChain, mIsi, mRange, mItems, mEnum, mAnyI, mYes, seqOf, frz, isiB, truD, perm2, perm3, AP.S.on, vw, vws, dats, List.getElem?_cons_zero, List.getElem?_cons_succ, List.set_cons_zero, List.set_cons_succ, List.map_cons, List.map_nil, List.length_cons, List.length_nil, List.cons_append, List.nil_append, and_self, if_true, decide_true, decide_false, Bool.and_self, Bool.not_true, Bool.not_false, Nat.reduceAdd, Nat.reduceLeDiff, Nat.zero_add, Int.reduceLT, ix1, gLen, ln]; rw [if_pos (by omega)]; rfl) (by simp [rangeD]; omega) fun z hz acc => ?_
    obtain ⟨k, hk, rfl⟩ := in_range hz
    have hm := List.getElem_mem hk
    obtain ⟨o1, o2, _⟩ := ow _ hm
    refine ⟨⟨[some (.d (net hs ws)), some (.d (T S)), none, none, none, none, some (.d (.int k)), none], [] ++ [.l acc]⟩, rfl, ?_, fun _ => rfl⟩
    simp only [mSeq, mPut, mOp, mVar, mC, mIfS, mTest, mTr, mNot, mAsg, mgName, mgTup, mgCons, mgNil, mCB, mCons, mNil, mRet, mNext, mPar, mParO, mLstN, mAnd, mOr, mAndV, mOrV, mNotV, mIf, mTup, mLst, mSl, mPart, mNoPart, mCall, mCallK, mCallF, mDrop, mDat, mApp, mChain, mIsi, mRange, mItems, mEnum, mAnyI, mYes, seqOf, frz, isiB, truD, perm2, perm3, AP.S.on, vw, vws, dats, List.getElem?_cons_zero, List.getElem?_cons_succ, List.set_cons_zero, List.set_cons_succ, List.map_cons, List.map_nil, List.length_cons, List.length_nil, List.cons_append, List.nil_append, and_self, if_true, decide_true, decide_false, Bool.and_self, Bool.not_true, Bool.not_false, Nat.reduceAdd, Nat.reduceLeDiff, Nat.zero_add, Int.reduceLT, ix1, pW ws hk, pr0, pr1, gNotIn_T (g.ok _ o1) hS, gIn_T (g.ok _ o2) hS, pR_at _ ws hk]
    unfold qin
    cases S.contains ws[k].1 <;> rfl
  have lc2 : mLc (mRange (mCons (mCB gLen (mCons (mOp gIx (mVar 0) (mC (.int 1))) mNil)) mNil)) (mgName 6) (mAnd (mTest (mOp gIn (mOp gIx (mOp gIx (mOp gIx (mVar 0) (mC (.int 1))) (mVar 6)) (mC (.int 0))) (mVar 1))) (mTest (mOp gNotIn (mOp gIx (mOp gIx (mOp gIx (mVar 0) (mC (.int 1))) (mVar 6)) (mC (.int 1))) (mVar 1)))) (mVar 6) [6]
      ⟨[some (.d (net hs ws)), some (.d (T S)), some (.d (.list (idx (qin S) 0 ws))), none, none, none, none, none], []⟩ = some (.l (idx (qout S) 0 ws), []) := by
    rw [← idx_range (qout S), ← List.map_id (List.filter (pR (qout S) ws) _)]
    refine mLc_eval (items := rangeD ws.length) (by simp only [mSeq, mPut, mOp, mVar, mC, mIfS, mTest, mTr, mNot, mAsg, mgName, mgTup, mgCons, mgNil, mCB, mCons, mNil, mRet, mNext, mPar, mParO, mLstN, mAnd, mOr, mAndV, mOrV, mNotV, mIf, mTup, mLst, mSl, mPart, mNoPart, mCall, mCallK, mCallF, mDrop, mDat, mApp, mChain, mIsi, mRange, mItems, mEnum, mAnyI, mYes, seqOf, frz, isiB, truD, perm2, perm3, AP.S.on, vw, vws, dats, List.getElem?_cons_zero, List.getElem?_cons_succ, List.set_cons_zero, List.set_cons_succ, List.map_cons, List.map_nil, List.length_cons, List.length_nil, List.cons_append, List.nil_append, and_self, if_true, decide_true, decide_false, Bool.and_self, Bool.not_true, Bool.not_false, Nat.reduceAdd, Nat.reduceLeDiff, Nat.zero_add, Int.reduceLT, ix1, gLen, ln]; rw [if_pos (by omega)]; rfl) (by simp [rangeD]; omega) fun z hz acc => ?_
    obtain ⟨k, hk, rfl⟩ := in_range hz
    have hm := List.getElem_mem hk
    obtain ⟨o1, o2, _⟩ := ow _ hm
    refine ⟨⟨[some (.d (net hs ws)), some (.d (T S)), some (.d (.list (idx (qin S) 0 ws))), none, none, none, some (.d (.int k)), none], [] ++ [.l acc]⟩, rfl, ?_, fun _ => rfl⟩
    simp only [mSeq, mPut, mOp, mVar, mC, mIfS, mTest, mTr, mNot, mAsg, mgName, mgTup, mgCons, mgNil, mCB, mCons, mNil, mRet, mNext, mPar, mParO, mLstN, mAnd, mOr, mAndV, mOrV, mNotV, mIf, mTup, mLst, mSl, mPart, mNoPart, mCall, mCallK, mCallF, mDrop, mDat, mApp, mChain, mIsi, mRange, mItems, mEnum, mAnyI, mYes, seqOf, frz, isiB, truD, perm2, perm3, AP.S.on, vw, vws, dats, List.getElem?_cons_zero, List.getElem?_cons_succ, List.set_cons_zero, List.set_cons_succ, List.map_cons, List.map_nil, List.length_cons, List.length_nil, List.cons_append, List.nil_append, and_self, if_true, decide_true, decide_false, Bool.and_self, Bool.not_true, Bool.not_false, Nat.reduceAdd, Nat.reduceLeDiff, Nat.zero_add, Int.reduceLT, ix1, pW ws hk, pr0, pr1, gIn_T (g.ok _ o1) hS, gNotIn_T (g.ok _ o2) hS, pR_at _ ws hk]
    unfold qout
    cases S.contains ws[k].1 <;> rfl
  have hi := into_ev g ow wl hS h
  have ho := out_ev g ow wl hS h
  have s1 := same4 (idx_Sm (qin S) wl) (idx_Sm (qout S) wl) (idx_Sm (qin S) wl) (idx_Sm (qout S) wl)
  have lc3 : ∀ x2 x3 x4, mLc (mAnyI (mOp gIx (mVar 0) (mC (.int 0)))) (mgName 7) (mTest (mOp gNotIn (mVar 7) (mVar 1))) (mVar 7) [7] ⟨[some (.d (net hs ws)), some (.d (T S)), x2, x3, x4, none, none, none], []⟩ = some (.l ((hs.filter fun a => !S.contains a).map .str), []) := by
    intro x2 x3 x4
    have e : (hs.filter fun a => !S.contains a).map PyData.str = ((hs.map PyData.str).filter fun d => match d with
        | .str a => !S.contains a
        | _ => false).map id := by
      rw [List.map_id, List.filter_map]
      rfl
    rw [e]
    refine mLc_eval (items := hs.map .str) (by simp only [mSeq, mPut, mOp, mVar, mC, mIfS, mTest, mTr, mNot, mAsg, mgName, mgTup, mgCons, mgNil, mCB, mCons, mNil, mRet, mNext, mPar, mParO, mLstN, mAnd, mOr, mAndV, mOrV, mNotV, mIf, mTup, mLst, mSl, mPart, mNoPart, mCall, mCallK, mCallF, mDrop, mDat, mApp, mChain, mIsi, mRange, mItems, mEnum, mAnyI, mYes, seqOf, frz, isiB, truD, perm2, perm3, AP.S.on, vw, vws, dats, List.getElem?_cons_zero, List.getElem?_cons_succ, List.set_cons_zero, List.set_cons_succ, List.map_cons, List.map_nil, List.length_cons, List.length_nil, List.cons_append, List.nil_append, and_self, if_true, decide_true, decide_false, Bool.and_self, Bool.not_true, Bool.not_false, Nat.reduceAdd, Nat.reduceLeDiff, Nat.zero_add, Int.reduceLT, ix0]; rfl) (by have := g.l5; simp; omega) fun z hz acc => ?_
    obtain ⟨a, ha, rfl⟩ := List.mem_map.mp hz
    refine ⟨⟨[some (.d (net hs ws)), some (.d (T S)), x2, x3, x4, none, none, some (.d (.str a))], [] ++ [.l acc]⟩, rfl, ?_, fun _ => rfl⟩
    simp only [mSeq, mPut, mOp, mVar, mC, mIfS, mTest, mTr, mNot, mAsg, mgName, mgTup, mgCons, mgNil, mCB, mCons, mNil, mRet, mNext, mPar, mParO, mLstN, mAnd, mOr, mAndV, mOrV, mNotV, mIf, mTup, mLst, mSl, mPart, mNoPart, mCall, mCallK, mCallF, mDrop, mDat, mApp, mChain, mIsi, mRange, mItems, mEnum, mAnyI, mYes, seqOf, frz, isiB, truD, perm2, perm3, AP.S.on, vw, vws, dats, List.getElem?_cons_zero, List.getElem?_cons_succ, List.set_cons_zero, List.set_cons_succ, List.map_cons, List.map_nil, List.length_cons, List.length_nil, List.cons_append, List.nil_append, and_self, if_true, decide_true, decide_false, Bool.and_self, Bool.not_true, Bool.not_false, Nat.reduceAdd, Nat.reduceLeDiff, Nat.zero_add, Int.reduceLT, gNotIn_T (g.ok _ ha) hS]
  generalize hRe : (hs.filter fun a => !S.contains a) = R at hR lc3
  have hRok : ∀ x ∈ R, PyData.strOk x = true := fun x hx => by
    rw [← hRe] at hx
    exact g.ok _ (List.mem_filter.mp hx).1
  unfold m__law_is_right
  simp only [mSeq, mPut, mOp, mVar, mC, mIfS, mTest, mTr, mNot, mAsg, mgName, mgTup, mgCons, mgNil, mCB, mCons, mNil, mRet, mNext, mPar, mParO, mLstN, mAnd, mOr, mAndV, mOrV, mNotV, mIf, mTup, mLst, mSl, mPart, mNoPart, mCall, mCallK, mCallF, mDrop, mDat, mApp, mChain, mIsi, mRange, mItems, mEnum, mAnyI, mYes, seqOf, frz, isiB, truD, perm2, perm3, AP.S.on, vw, vws, dats, List.getElem?_cons_zero, List.getElem?_cons_succ, List.set_cons_zero, List.set_cons_succ, List.map_cons, List.map_nil, List.length_cons, List.length_nil, List.cons_append, List.nil_append, and_self, if_true, decide_true, decide_false, Bool.and_self, Bool.not_true, Bool.not_false, Nat.reduceAdd, Nat.reduceLeDiff, Nat.zero_add, Int.reduceLT, lc1, lc2, gLen, hi, ho, gTuple, s1, lc3]
  rw [show PyData.tuple (R.map PyData.str) = T R from rfl]
  simp only [mSeq, mPut, mOp, mVar, mC, mIfS, mTest, mTr, mNot, mAsg, mgName, mgTup, mgCons, mgNil, mCB, mCons, mNil, mRet, mNext, mPar, mParO, mLstN, mAnd, mOr, mAndV, mOrV, mNotV, mIf, mTup, mLst, mSl, mPart, mNoPart, mCall, mCallK, mCallF, mDrop, mDat, mApp, mChain, mIsi, mRange, mItems, mEnum, mAnyI, mYes, seqOf, frz, isiB, truD, perm2, perm3, AP.S.on, vw, vws, dats, List.getElem?_cons_zero, List.getElem?_cons_succ, List.set_cons_zero, List.set_cons_succ, List.map_cons, List.map_nil, List.length_cons, List.length_nil, List.cons_append, List.nil_append, and_self, if_true, decide_true, decide_false, Bool.and_self, Bool.not_true, Bool.not_false, Nat.reduceAdd, Nat.reduceLeDiff, Nat.zero_add, Int.reduceLT, gEq_Tnil hRok]
  cases hR with
  | inl e =>
    subst e
    simp only [mSeq, mPut, mOp, mVar, mC, mIfS, mTest, mTr, mNot, mAsg, mgName, mgTup, mgCons, mgNil, mCB, mCons, mNil, mRet, mNext, mPar, mParO, mLstN, mAnd, mOr, mAndV, mOrV, mNotV, mIf, mTup, mLst, mSl, mPart, mNoPart, mCall, mCallK, mCallF, mDrop, mDat, mApp, mChain, mIsi, mRange, mItems, mEnum, mAnyI, mYes, seqOf, frz, isiB, truD, perm2, perm3, AP.S.on, vw, vws, dats, List.getElem?_cons_zero, List.getElem?_cons_succ, List.set_cons_zero, List.set_cons_succ, List.map_cons, List.map_nil, List.length_cons, List.length_nil, List.cons_append, List.nil_append, and_self, if_true, decide_true, decide_false, Bool.and_self, Bool.not_true, Bool.not_false, Nat.reduceAdd, Nat.reduceLeDiff, Nat.zero_add, Int.reduceLT, List.isEmpty_nil, retD]
  | inr e =>
    by_cases hn : R = []
    · subst hn
      simp only [mSeq, mPut, mOp, mVar, mC, mIfS, mTest, mTr, mNot, mAsg, mgName, mgTup, mgCons, mgNil, mCB, mCons, mNil, mRet, mNext, mPar, mParO, mLstN, mAnd, mOr, mAndV, mOrV, mNotV, mIf, mTup, mLst, mSl, mPart, mNoPart, mCall, mCallK, mCallF, mDrop, mDat, mApp, mChain, mIsi, mRange, mItems, mEnum, mAnyI, mYes, seqOf, frz, isiB, truD, perm2, perm3, AP.S.on, vw, vws, dats, List.getElem?_cons_zero, List.getElem?_cons_succ, List.set_cons_zero, List.set_cons_succ, List.map_cons, List.map_nil, List.length_cons, List.length_nil, List.cons_append, List.nil_append, and_self, if_true, decide_true, decide_false, Bool.and_self, Bool.not_true, Bool.not_false, Nat.reduceAdd, Nat.reduceLeDiff, Nat.zero_add, Int.reduceLT, List.isEmpty_nil, retD]
    · have e0 : R.isEmpty = false := by simpa using hn
      have hi2 := into_ev g ow wl hRok e
      have ho2 := out_ev g ow wl hRok e
      have cR : ∀ a ∈ hs, R.contains a = !S.contains a := fun a ha => by
        rw [← hRe, Bool.eq_iff_iff, List.contains_iff_mem, List.mem_filter]
        simp [ha]
      have c1 : idx (qin R) 0 ws = idx (qout S) 0 ws := idx_congr ws 0 fun p hp => by
        obtain ⟨o1, o2, _⟩ := ow p hp
        unfold qin qout
        rw [cR _ o1, cR _ o2, Bool.not_not]
      have c2 : idx (qout R) 0 ws = idx (qin S) 0 ws := idx_congr ws 0 fun p hp => by
        obtain ⟨o1, o2, _⟩ := ow p hp
        unfold qin qout
        rw [cR _ o1, cR _ o2, Bool.not_not]
      rw [c1] at hi2
      rw [c2] at ho2
      have s2 := same2 (idx_Sm (qout S) wl) (idx_Sm (qin S) wl)
      simp only [mSeq, mPut, mOp, mVar, mC, mIfS, mTest, mTr, mNot, mAsg, mgName, mgTup, mgCons, mgNil, mCB, mCons, mNil, mRet, mNext, mPar, mParO, mLstN, mAnd, mOr, mAndV, mOrV, mNotV, mIf, mTup, mLst, mSl, mPart, mNoPart, mCall, mCallK, mCallF, mDrop, mDat, mApp, mChain, mIsi, mRange, mItems, mEnum, mAnyI, mYes, seqOf, frz, isiB, truD, perm2, perm3, AP.S.on, vw, vws, dats, List.getElem?_cons_zero, List.getElem?_cons_succ, List.set_cons_zero, List.set_cons_succ, List.map_cons, List.map_nil, List.length_cons, List.length_nil, List.cons_append, List.nil_append, and_self, if_true, decide_true, decide_false, Bool.and_self, Bool.not_true, Bool.not_false, Nat.reduceAdd, Nat.reduceLeDiff, Nat.zero_add, Int.reduceLT, e0, hi2, ho2, s2, retD]
end G06

namespace G06
open PySem PySem.Spec PyProof.Rows L2 RZ AP
theorem show_strs : ∀ xs : List Str, PyData.showableAll (xs.map .str) = true
  | [] => by simp only [List.map_nil, PyData.showableAll]
  | x :: xs => by simp only [List.map_cons, PyData.showableAll, PyData.showable, show_strs xs, Bool.and_self]
theorem show_prs : ∀ ws : List (Str × Str), PyData.showableAll (ws.map pr) = true
  | [] => by simp only [List.map_nil, PyData.showableAll]
  | p :: ws => by simp only [List.map_cons, PyData.showableAll, pr, PyData.showable, show_prs ws, Bool.and_self]
theorem wz_strs : ∀ {xs : List Str}, (∀ a ∈ xs, a.length ≤ 8) → wzs (xs.map .str) ≤ 84 * xs.length
  | [], _ => by simp [wzs]
  | x :: xs, h => by
    have h1 := h x List.mem_cons_self
    have h2 := wz_strs fun a ha => h a (List.mem_cons_of_mem _ ha)
    simp only [List.map_cons, wzs, wz, List.length_cons]
    omega
theorem wz_prs : ∀ {ws : List (Str × Str)}, (∀ p ∈ ws, p.1.length ≤ 8 ∧ p.2.length ≤ 8) → wzs (ws.map pr) ≤ 176 * ws.length
  | [], _ => by simp [wzs]
  | p :: ws, h => by
    have h1 := h p List.mem_cons_self
    have h2 := wz_prs fun a ha => h a (List.mem_cons_of_mem _ ha)
    simp only [List.map_cons, wzs, wz, pr, List.length_cons]
    omega
theorem repr_net {hs : List Str} {ws : List (Str × Str)} (g : Gd hs) (ow : okW hs ws) (wl : ws.length ≤ 16) : gRepr [net hs ws] = some (.str (net hs ws).shown) := by
  have c1 := canLay_strs g.ok
  have c2 : PyData.canLayAll0 (ws.map pr) = true := canLay_prs fun p hp => ⟨g.ok _ (ow p hp).1, g.ok _ (ow p hp).2.1⟩
  have w1 := wz_strs g.sh
  have w2 : wzs (ws.map pr) ≤ 176 * ws.length := wz_prs fun p hp => ⟨g.sh _ (ow p hp).1, g.sh _ (ow p hp).2.1⟩
  have l5 := g.l5
  refine gRepr_ok ?_ ?_ ?_ ?_
  · simp only [net, T, PyData.canLay0, PyData.canLayAll0, c1, c2, Bool.and_self]
  · simp only [net, T, PyData.showable, PyData.showableAll, show_strs, show_prs, Bool.and_self]
  · simp only [net, T, wz, wzs]; omega
  · have := depth_prs ws
    simp only [net, T, PyData.depth, PyData.depthAll, depth_strs]; omega
theorem turn_ev {hs : List Str} {ws : List (Str × Str)} (g : Gd hs) (ow : okW hs ws) (wl : ws.length ≤ 16) {a b : Str} (ha : a ∈ hs) (hb : b ∈ hs) (f : MO) (x2 x4 x7 x8 x9 : Option SV) :
    (mSeq (mAsg (mCB gTuple (mCons (mDat (mLc (mRange (mCons (mCB gLen (mCons (mOp gIx (mVar 3) (mC (.int 1))) mNil)) mNil)) (mgName 9) (mTest (mOp gEq (mOp gIx (mOp gIx (mVar 3) (mC (.int 1))) (mVar 9)) (mTup (mCons (mVar 5) (mCons (mVar 6) mNil))))) (mVar 9) [9])) mNil)) (mgName 7)) (mIfS (mNot (mTr (mCall 2 (runP 2 m__law_same) (mCons (mLst (mCons (mCall 3 (runP 5 m_between) (mCons (mVar 3) (mCons (mVar 5) (mCons (mVar 6) mNil)))) (mCons (mCallK 3 (runP 5 m_between) [2, 1, 0] (mCons (mVar 6) (mCons (mVar 5) (mCons (mVar 3) mNil)))) mNil))) (mCons (mLst (mCons (mVar 7) (mCons (mVar 7) mNil))) mNil))))) (mRet (mC (.bool false))) mNext))
      ⟨[none, some (.m 0), x2, some (.d (net hs ws)), x4, some (.d (.str a)), some (.d (.str b)), x7, x8, x9], [f]⟩ = some (.nx ⟨[none, some (.m 0), x2, some (.d (net hs ws)), x4, some (.d (.str a)), some (.d (.str b)), some (.d (.tuple (idx (qbt a b) 0 ws))), x8, x9], [f]⟩) := by
  have ln : (ws.map pr).length = ws.length := List.length_map _
  have lc : mLc (mRange (mCons (mCB gLen (mCons (mOp gIx (mVar 3) (mC (.int 1))) mNil)) mNil)) (mgName 9) (mTest (mOp gEq (mOp gIx (mOp gIx (mVar 3) (mC (.int 1))) (mVar 9)) (mTup (mCons (mVar 5) (mCons (mVar 6) mNil))))) (mVar 9) [9]
      ⟨[none, some (.m 0), x2, some (.d (net hs ws)), x4, some (.d (.str a)), some (.d (.str b)), x7, x8, x9], [f]⟩ = some (.l (idx (qbt a b) 0 ws), [f]) := by
    rw [← idx_range, ← List.map_id (List.filter _ _)]
    refine mLc_eval (items := rangeD ws.length) (by simp only [mSeq, mPut, mOp, mVar, mC, mIfS, mTest, mTr, mNot, mAsg, mgName, mgTup, mgCons, mgNil, mCB, mCons, mNil, mRet, mNext, mPar, mParO, mLstN, mAnd, mOr, mAndV, mOrV, mNotV, mIf, mTup, mLst, mSl, mPart, mNoPart, mCall, mCallK, mCallF, mDrop, mDat, mApp, mChain, mIsi, mRange, mItems, mEnum, mAnyI, mYes, seqOf, frz, isiB, truD, perm2, perm3, AP.S.on, vw, vws, dats, List.getElem?_cons_zero, List.getElem?_cons_succ, List.set_cons_zero, List.set_cons_succ, List.map_cons, List.map_nil, List.length_cons, List.length_nil, List.cons_append, List.nil_append, and_self, if_true, decide_true, decide_false, Bool.and_self, Bool.not_true, Bool.not_false, Nat.reduceAdd, Nat.reduceLeDiff, Nat.zero_add, Int.reduceLT, ix1, gLen, ln]; rw [if_pos (by omega)]; rfl) (by simp [rangeD]; omega) fun z hz acc => ?_
    obtain ⟨k, hk, rfl⟩ := in_range hz
    obtain ⟨o1, o2, _⟩ := ow _ (List.getElem_mem hk)
    refine ⟨⟨[none, some (.m 0), x2, some (.d (net hs ws)), x4, some (.d (.str a)), some (.d (.str b)), x7, x8, some (.d (.int k))], [f] ++ [.l acc]⟩, rfl, ?_, fun _ => rfl⟩
    simp only [mSeq, mPut, mOp, mVar, mC, mIfS, mTest, mTr, mNot, mAsg, mgName, mgTup, mgCons, mgNil, mCB, mCons, mNil, mRet, mNext, mPar, mParO, mLstN, mAnd, mOr, mAndV, mOrV, mNotV, mIf, mTup, mLst, mSl, mPart, mNoPart, mCall, mCallK, mCallF, mDrop, mDat, mApp, mChain, mIsi, mRange, mItems, mEnum, mAnyI, mYes, seqOf, frz, isiB, truD, perm2, perm3, AP.S.on, vw, vws, dats, List.getElem?_cons_zero, List.getElem?_cons_succ, List.set_cons_zero, List.set_cons_succ, List.map_cons, List.map_nil, List.length_cons, List.length_nil, List.cons_append, List.nil_append, and_self, if_true, decide_true, decide_false, Bool.and_self, Bool.not_true, Bool.not_false, Nat.reduceAdd, Nat.reduceLeDiff, Nat.zero_add, Int.reduceLT, ix1, pW ws hk, gEq_pr (g.ok _ o1) (g.ok _ o2) (g.ok _ ha) (g.ok _ hb), pR_at _ ws hk]
  have s := same2 (idx_Sm (qbt a b) wl) (idx_Sm (qbt a b) wl)
  simp only [mSeq, mPut, mOp, mVar, mC, mIfS, mTest, mTr, mNot, mAsg, mgName, mgTup, mgCons, mgNil, mCB, mCons, mNil, mRet, mNext, mPar, mParO, mLstN, mAnd, mOr, mAndV, mOrV, mNotV, mIf, mTup, mLst, mSl, mPart, mNoPart, mCall, mCallK, mCallF, mDrop, mDat, mApp, mChain, mIsi, mRange, mItems, mEnum, mAnyI, mYes, seqOf, frz, isiB, truD, perm2, perm3, AP.S.on, vw, vws, dats, List.getElem?_cons_zero, List.getElem?_cons_succ, List.set_cons_zero, List.set_cons_succ, List.map_cons, List.map_nil, List.length_cons, List.length_nil, List.cons_append, List.nil_append, and_self, if_true, decide_true, decide_false, Bool.and_self, Bool.not_true, Bool.not_false, Nat.reduceAdd, Nat.reduceLeDiff, Nat.zero_add, Int.reduceLT, lc, gTuple, betw_ev g ow wl ha hb, s]
theorem lap_ev {f : MO} (hf : FeedOk f) (x2 x3 x4 x5 x6 x7 x8 x9 : Option SV) : ∃ f' y3 y4 y5 y6 y7, FeedOk f' ∧
    (mSeq (mAsg (mCallF 3 (runF 9 m__law_web) (mCons (mVar 1) (mCons (mC (.int 5)) (mCons (mC (.int 8)) mNil)))) (mgName 3)) (mSeq (mAsg (mCB gRepr (mCons (mVar 3) mNil)) (mgName 4)) (mSeq (mIfS (mTest (mOp gNe (mDat (mLc (mAnyI (mCall 1 (runP 4 m__law_sets) (mCons (mOp gIx (mVar 3) (mC (.int 0))) mNil))) (mgName 8) (mNot (mTr (mCall 2 (runP 8 m__law_is_right) (mCons (mVar 3) (mCons (mVar 8) mNil))))) (mVar 8) [8])) (mLst mNil))) (mRet (mC (.bool false))) mNext) (mSeq (mFor (mAnyI (mOp gIx (mVar 3) (mC (.int 0)))) (mgName 5) (mFor (mAnyI (mOp gIx (mVar 3) (mC (.int 0)))) (mgName 6) (mSeq (mAsg (mCB gTuple (mCons (mDat (mLc (mRange (mCons (mCB gLen (mCons (mOp gIx (mVar 3) (mC (.int 1))) mNil)) mNil)) (mgName 9) (mTest (mOp gEq (mOp gIx (mOp gIx (mVar 3) (mC (.int 1))) (mVar 9)) (mTup (mCons (mVar 5) (mCons (mVar 6) mNil))))) (mVar 9) [9])) mNil)) (mgName 7)) (mIfS (mNot (mTr (mCall 2 (runP 2 m__law_same) (mCons (mLst (mCons (mCall 3 (runP 5 m_between) (mCons (mVar 3) (mCons (mVar 5) (mCons (mVar 6) mNil)))) (mCons (mCallK 3 (runP 5 m_between) [2, 1, 0] (mCons (mVar 6) (mCons (mVar 5) (mCons (mVar 3) mNil)))) mNil))) (mCons (mLst (mCons (mVar 7) (mCons (mVar 7) mNil))) mNil))))) (mRet (mC (.bool false))) mNext)))) (mIfS (mTest (mOp gNe (mCB gRepr (mCons (mVar 3) mNil)) (mVar 4))) (mRet (mC (.bool false))) mNext)))))
      ⟨[none, some (.m 0), x2, x3, x4, x5, x6, x7, x8, x9], [f]⟩ = some (.nx ⟨[none, some (.m 0), x2, y3, y4, y5, y6, y7, x8, x9], [f']⟩) := by
  obtain ⟨hs, ws, f1, e1, hh, wl, ow, h1⟩ := web_ev hf
  have g := gd_of hh
  obtain ⟨ss, es, sl, so⟩ := g.se
  have rp := repr_net g ow wl
  have lc : mLc (mAnyI (mCall 1 (runP 4 m__law_sets) (mCons (mOp gIx (mVar 3) (mC (.int 0))) mNil))) (mgName 8) (mNot (mTr (mCall 2 (runP 8 m__law_is_right) (mCons (mVar 3) (mCons (mVar 8) mNil))))) (mVar 8) [8]
      ⟨[none, some (.m 0), x2, some (.d (net hs ws)), some (.d (.str (net hs ws).shown)), x5, x6, x7, x8, x9], [f1]⟩ = some (.l [], [f1]) := by
    have z := mLc_eval (im := mAnyI (mCall 1 (runP 4 m__law_sets) (mCons (mOp gIx (mVar 3) (mC (.int 0))) mNil))) (g := mgName 8) (c := mNot (mTr (mCall 2 (runP 8 m__law_is_right) (mCons (mVar 3) (mCons (mVar 8) mNil))))) (e := mVar 8) (vs := [8])
      (s := ⟨[none, some (.m 0), x2, some (.d (net hs ws)), some (.d (.str (net hs ws).shown)), x5, x6, x7, x8, x9], [f1]⟩) (items := ss) (p := fun _ => false) (f := id) (by simp only [mSeq, mPut, mOp, mVar, mC, mIfS, mTest, mTr, mNot, mAsg, mgName, mgTup, mgCons, mgNil, mCB, mCons, mNil, mRet, mNext, mPar, mParO, mLstN, mAnd, mOr, mAndV, mOrV, mNotV, mIf, mTup, mLst, mSl, mPart, mNoPart, mCall, mCallK, mCallF, mDrop, mDat, mApp, mChain, mIsi, mRange, mItems, mEnum, mAnyI, mYes, seqOf, frz, isiB, truD, perm2, perm3, AP.S.on, vw, vws, dats, List.getElem?_cons_zero, List.getElem?_cons_succ, List.set_cons_zero, List.set_cons_succ, List.map_cons, List.map_nil, List.length_cons, List.length_nil, List.cons_append, List.nil_append, and_self, if_true, decide_true, decide_false, Bool.and_self, Bool.not_true, Bool.not_false, Nat.reduceAdd, Nat.reduceLeDiff, Nat.zero_add, Int.reduceLT, ix0, es]) sl fun d hd acc => ?_
    · rw [z]
      simp
    · have ok := so d hd
      unfold okSet at ok
      split at ok
      · rename_i ds
        split at ok
        · rename_i S hS
          have e := strsOf_eq hS
          subst e
          simp only [Bool.and_eq_true, Bool.or_eq_true, List.all_eq_true, List.isEmpty_iff] at ok
          obtain ⟨⟨o1, o2⟩, o3⟩ := ok
          have r := right_ev (S := S) g ow wl o2 (isT_eq o1) (o3.imp id isT_eq)
          refine ⟨⟨[none, some (.m 0), x2, some (.d (net hs ws)), some (.d (.str (net hs ws).shown)), x5, x6, x7, some (.d (T S)), x9], [f1] ++ [.l acc]⟩, rfl, ?_, fun q => by cases q⟩
          simp only [mSeq, mPut, mOp, mVar, mC, mIfS, mTest, mTr, mNot, mAsg, mgName, mgTup, mgCons, mgNil, mCB, mCons, mNil, mRet, mNext, mPar, mParO, mLstN, mAnd, mOr, mAndV, mOrV, mNotV, mIf, mTup, mLst, mSl, mPart, mNoPart, mCall, mCallK, mCallF, mDrop, mDat, mApp, mChain, mIsi, mRange, mItems, mEnum, mAnyI, mYes, seqOf, frz, isiB, truD, perm2, perm3, AP.S.on, vw, vws, dats, List.getElem?_cons_zero, List.getElem?_cons_succ, List.set_cons_zero, List.set_cons_succ, List.map_cons, List.map_nil, List.length_cons, List.length_nil, List.cons_append, List.nil_append, and_self, if_true, decide_true, decide_false, Bool.and_self, Bool.not_true, Bool.not_false, Nat.reduceAdd, Nat.reduceLeDiff, Nat.zero_add, Int.reduceLT, r]
        · cases ok
      · cases ok
  obtain ⟨s', el, y5, y6, y7, rfl⟩ := mFor_eval (im := mAnyI (mOp gIx (mVar 3) (mC (.int 0)))) (g := mgName 5) (b := (mFor (mAnyI (mOp gIx (mVar 3) (mC (.int 0)))) (mgName 6) (mSeq (mAsg (mCB gTuple (mCons (mDat (mLc (mRange (mCons (mCB gLen (mCons (mOp gIx (mVar 3) (mC (.int 1))) mNil)) mNil)) (mgName 9) (mTest (mOp gEq (mOp gIx (mOp gIx (mVar 3) (mC (.int 1))) (mVar 9)) (mTup (mCons (mVar 5) (mCons (mVar 6) mNil))))) (mVar 9) [9])) mNil)) (mgName 7)) (mIfS (mNot (mTr (mCall 2 (runP 2 m__law_same) (mCons (mLst (mCons (mCall 3 (runP 5 m_between) (mCons (mVar 3) (mCons (mVar 5) (mCons (mVar 6) mNil)))) (mCons (mCallK 3 (runP 5 m_between) [2, 1, 0] (mCons (mVar 6) (mCons (mVar 5) (mCons (mVar 3) mNil)))) mNil))) (mCons (mLst (mCons (mVar 7) (mCons (mVar 7) mNil))) mNil))))) (mRet (mC (.bool false))) mNext))))
    (s := ⟨[none, some (.m 0), x2, some (.d (net hs ws)), some (.d (.str (net hs ws).shown)), x5, x6, x7, x8, x9], [f1]⟩) (items := hs.map .str) (o1 := [f1])
    (fun _ s => ∃ y5 y6 y7, s = (⟨[none, some (.m 0), x2, some (.d (net hs ws)), some (.d (.str (net hs ws).shown)), y5, y6, y7, x8, x9], [f1]⟩ : S)) (by simp only [mSeq, mPut, mOp, mVar, mC, mIfS, mTest, mTr, mNot, mAsg, mgName, mgTup, mgCons, mgNil, mCB, mCons, mNil, mRet, mNext, mPar, mParO, mLstN, mAnd, mOr, mAndV, mOrV, mNotV, mIf, mTup, mLst, mSl, mPart, mNoPart, mCall, mCallK, mCallF, mDrop, mDat, mApp, mChain, mIsi, mRange, mItems, mEnum, mAnyI, mYes, seqOf, frz, isiB, truD, perm2, perm3, AP.S.on, vw, vws, dats, List.getElem?_cons_zero, List.getElem?_cons_succ, List.set_cons_zero, List.set_cons_succ, List.map_cons, List.map_nil, List.length_cons, List.length_nil, List.cons_append, List.nil_append, and_self, if_true, decide_true, decide_false, Bool.and_self, Bool.not_true, Bool.not_false, Nat.reduceAdd, Nat.reduceLeDiff, Nat.zero_add, Int.reduceLT, ix0]; rfl) ⟨_, _, _, rfl⟩ (by
      rintro i d s hi ⟨y5, y6, y7, rfl⟩
      obtain ⟨a, ha, rfl⟩ := List.mem_map.mp (List.mem_of_getElem? hi)
      obtain ⟨s', el, z6, z7, rfl⟩ := mFor_eval (im := mAnyI (mOp gIx (mVar 3) (mC (.int 0)))) (g := mgName 6) (b := (mSeq (mAsg (mCB gTuple (mCons (mDat (mLc (mRange (mCons (mCB gLen (mCons (mOp gIx (mVar 3) (mC (.int 1))) mNil)) mNil)) (mgName 9) (mTest (mOp gEq (mOp gIx (mOp gIx (mVar 3) (mC (.int 1))) (mVar 9)) (mTup (mCons (mVar 5) (mCons (mVar 6) mNil))))) (mVar 9) [9])) mNil)) (mgName 7)) (mIfS (mNot (mTr (mCall 2 (runP 2 m__law_same) (mCons (mLst (mCons (mCall 3 (runP 5 m_between) (mCons (mVar 3) (mCons (mVar 5) (mCons (mVar 6) mNil)))) (mCons (mCallK 3 (runP 5 m_between) [2, 1, 0] (mCons (mVar 6) (mCons (mVar 5) (mCons (mVar 3) mNil)))) mNil))) (mCons (mLst (mCons (mVar 7) (mCons (mVar 7) mNil))) mNil))))) (mRet (mC (.bool false))) mNext)))
        (s := ⟨[none, some (.m 0), x2, some (.d (net hs ws)), some (.d (.str (net hs ws).shown)), some (.d (.str a)), y6, y7, x8, x9], [f1]⟩) (items := hs.map .str) (o1 := [f1])
        (fun _ s => ∃ z6 z7, s = (⟨[none, some (.m 0), x2, some (.d (net hs ws)), some (.d (.str (net hs ws).shown)), some (.d (.str a)), z6, z7, x8, x9], [f1]⟩ : S)) (by simp only [mSeq, mPut, mOp, mVar, mC, mIfS, mTest, mTr, mNot, mAsg, mgName, mgTup, mgCons, mgNil, mCB, mCons, mNil, mRet, mNext, mPar, mParO, mLstN, mAnd, mOr, mAndV, mOrV, mNotV, mIf, mTup, mLst, mSl, mPart, mNoPart, mCall, mCallK, mCallF, mDrop, mDat, mApp, mChain, mIsi, mRange, mItems, mEnum, mAnyI, mYes, seqOf, frz, isiB, truD, perm2, perm3, AP.S.on, vw, vws, dats, List.getElem?_cons_zero, List.getElem?_cons_succ, List.set_cons_zero, List.set_cons_succ, List.map_cons, List.map_nil, List.length_cons, List.length_nil, List.cons_append, List.nil_append, and_self, if_true, decide_true, decide_false, Bool.and_self, Bool.not_true, Bool.not_false, Nat.reduceAdd, Nat.reduceLeDiff, Nat.zero_add, Int.reduceLT, ix0]; rfl) ⟨_, _, rfl⟩ (by
          rintro j d s hj ⟨z6, z7, rfl⟩
          obtain ⟨b, hb, rfl⟩ := List.mem_map.mp (List.mem_of_getElem? hj)
          exact ⟨_, _, rfl, turn_ev g ow wl ha hb f1 _ _ _ _ _, _, _, rfl⟩)
      exact ⟨_, _, rfl, el, _, _, _, rfl⟩)
  refine ⟨f1, some (.d (net hs ws)), some (.d (.str (net hs ws).shown)), y5, y6, y7, h1, ?_⟩
  have n0 : gNe (.list []) (.list []) = some (.bool false) := rfl
  simp only [mSeq, mPut, mOp, mVar, mC, mIfS, mTest, mTr, mNot, mAsg, mgName, mgTup, mgCons, mgNil, mCB, mCons, mNil, mRet, mNext, mPar, mParO, mLstN, mAnd, mOr, mAndV, mOrV, mNotV, mIf, mTup, mLst, mSl, mPart, mNoPart, mCall, mCallK, mCallF, mDrop, mDat, mApp, mChain, mIsi, mRange, mItems, mEnum, mAnyI, mYes, seqOf, frz, isiB, truD, perm2, perm3, AP.S.on, vw, vws, dats, List.getElem?_cons_zero, List.getElem?_cons_succ, List.set_cons_zero, List.set_cons_succ, List.map_cons, List.map_nil, List.length_cons, List.length_nil, List.cons_append, List.nil_append, and_self, if_true, decide_true, decide_false, Bool.and_self, Bool.not_true, Bool.not_false, Nat.reduceAdd, Nat.reduceLeDiff, Nat.zero_add, Int.reduceLT, e1, rp, lc, n0, el, gNe_str]
end G06

namespace G06
open PySem PySem.Spec PyProof.Rows L2 RZ AP

def d_is_pair : He.DefD := ⟨("is_pair", none), "is_pair", "is_pair", defArgs s_is_pair, defBody s_is_pair, defScope s_is_pair, [], []⟩
def d_is_name : He.DefD := ⟨("is_name", none), "is_name", "is_name", defArgs s_is_name, defBody s_is_name, defScope s_is_name, [], []⟩
def d_is_name_pair : He.DefD := ⟨("is_name_pair", none), "is_name_pair", "is_name_pair", defArgs s_is_name_pair, defBody s_is_name_pair, defScope s_is_name_pair, [], []⟩
def d_is_houses : He.DefD := ⟨("is_houses", none), "is_houses", "is_houses", defArgs s_is_houses, defBody s_is_houses, defScope s_is_houses, [], []⟩
def d_is_wire : He.DefD := ⟨("is_wire", none), "is_wire", "is_wire", defArgs s_is_wire, defBody s_is_wire, defScope s_is_wire, [], []⟩
def d_is_set_among : He.DefD := ⟨("is_set_among", none), "is_set_among", "is_set_among", defArgs s_is_set_among, defBody s_is_set_among, defScope s_is_set_among, [], []⟩
def d_is_wire_among : He.DefD := ⟨("is_wire_among", none), "is_wire_among", "is_wire_among", defArgs s_is_wire_among, defBody s_is_wire_among, defScope s_is_wire_among, [], []⟩
def d_lets_net : He.DefD := ⟨("lets_net", none), "lets_net", "lets_net", defArgs s_lets_net, defBody s_lets_net, defScope s_lets_net, [], []⟩
def d_need_net : He.DefD := ⟨("need_net", none), "need_net", "need_net", defArgs s_need_net, defBody s_need_net, defScope s_need_net, [], []⟩
def d_need_house : He.DefD := ⟨("need_house", none), "need_house", "need_house", defArgs s_need_house, defBody s_need_house, defScope s_need_house, [], []⟩
def d_need_houses : He.DefD := ⟨("need_houses", none), "need_houses", "need_houses", defArgs s_need_houses, defBody s_need_houses, defScope s_need_houses, [], []⟩
def d_into_of : He.DefD := ⟨("into_of", none), "into_of", "into_of", defArgs s_into_of, defBody s_into_of, defScope s_into_of, [], []⟩
def d_out_of : He.DefD := ⟨("out_of", none), "out_of", "out_of", defArgs s_out_of, defBody s_out_of, defScope s_out_of, [], []⟩
def d_between : He.DefD := ⟨("between", none), "between", "between", defArgs s_between, defBody s_between, defScope s_between, [], []⟩
def d__law_feed : He.DefD := ⟨("_law_feed", none), "_law_feed", "_law_feed", defArgs s__law_feed, defBody s__law_feed, defScope s__law_feed, [], []⟩
def d__law_draw : He.DefD := ⟨("_law_draw", none), "_law_draw", "_law_draw", defArgs s__law_draw, defBody s__law_draw, defScope s__law_draw, [], []⟩
def d__law_any : He.DefD := ⟨("_law_any", none), "_law_any", "_law_any", defArgs s__law_any, defBody s__law_any, defScope s__law_any, [], []⟩
def d__law_same : He.DefD := ⟨("_law_same", none), "_law_same", "_law_same", defArgs s__law_same, defBody s__law_same, defScope s__law_same, [], []⟩
def d__law_names : He.DefD := ⟨("_law_names", none), "_law_names", "_law_names", defArgs s__law_names, defBody s__law_names, defScope s__law_names, [], []⟩
def d__law_web : He.DefD := ⟨("_law_web", none), "_law_web", "_law_web", defArgs s__law_web, defBody s__law_web, defScope s__law_web, [], []⟩
def d__law_sets : He.DefD := ⟨("_law_sets", none), "_law_sets", "_law_sets", defArgs s__law_sets, defBody s__law_sets, defScope s__law_sets, [], []⟩
def d__law_is_right : He.DefD := ⟨("_law_is_right", none), "_law_is_right", "_law_is_right", defArgs s__law_is_right, defBody s__law_is_right, defScope s__law_is_right, [], []⟩
def d_law : He.DefD := ⟨("law", none), "law", "law", defArgs s_law, defBody s_law, defScope s_law, [], []⟩
def fn : List He.DefD := [d_is_pair, d_is_name, d_is_name_pair, d_is_houses, d_is_wire, d_is_set_among, d_is_wire_among, d_lets_net, d_need_net, d_need_house, d_need_houses, d_into_of, d_out_of, d_between, d__law_feed, d__law_draw, d__law_any, d__law_same, d__law_names, d__law_web, d__law_sets, d__law_is_right, d_law]
def fa : List He.Fa := [.glo "is_pair", .glo "is_name", .glo "is_name_pair", .glo "is_houses", .glo "is_wire", .glo "is_set_among", .glo "is_wire_among", .glo "lets_net", .glo "need_net", .glo "need_house", .glo "need_houses", .glo "into_of", .glo "out_of", .glo "between", .glo "_law_feed", .glo "_law_draw", .glo "_law_any", .glo "_law_same", .glo "_law_names", .glo "_law_web", .glo "_law_sets", .glo "_law_is_right", .glo "law", .free "all", .free "enumerate", .free "int", .free "isinstance", .free "len", .free "range", .free "repr", .free "sorted", .free "str", .free "tuple", .free "zip"]
abbrev R : PySem.W.OpenRow := PySem.W.OpenLaw.row PySem.Challenge.rw_allpieces_k06_whole_wires_about
abbrev hk : PySem.W.Hook := He.hookD 4 fa fn
def ob (s : PySem.W.SharedT) : He.AlD := He.obsDG 4 fa fn (HandSHeadRun.getT s)
theorem ob_eq (s : PySem.W.SharedT) : ob s = hk.obs s.abs := He.obsDG_eq (HandSHeadRun.getT_eq s)
theorem run (w : World) : HandSHeadRun.RunEq R (PySem.W.view R.prog [33]) hk ob 4000 ["PieceError", "PaperError", "NetError", "InvalidPaper", "NotUsable", "is_pair", "is_name", "is_name_pair", "is_houses", "is_wire", "is_set_among", "is_wire_among", "lets_net", "need_net", "need_house", "need_houses", "into_of", "out_of", "between", "_law_feed", "_law_draw", "_law_any", "_law_same", "_law_names", "_law_web", "_law_sets", "_law_is_right"] w := by
  intro os
  kernel_rfl
theorem facts {P : Program} {w : World} {K : PySem.W.Frag} {h : Heap} {mg : Str → Option Value} {f : Addr} (X : K.In h) (G : h.Ns mainGlobals mg) (hfa : mg ("law" : Str) = some (.ref f)) (c : He.SaysD fa fn K) (ok : lawOk 10 m_law) :
    ∃ fd : FuncData, (∀ (s : Shared) (v : Value), BindsTo s fd ⟨[v], []⟩ [("_law_script", v)]) ∧ ∀ base : Heap, K.In base → base.Ns mainGlobals mg → FnG P w K mg base CX0 9 f fd ["_law_script"] (spLaw K) := by
  obtain ⟨fd_is_pair, F_is_pair⟩ := c.def_ 0 (d := d_is_pair) rfl
  obtain ⟨fd_is_name, F_is_name⟩ := c.def_ 1 (d := d_is_name) rfl
  obtain ⟨fd_is_name_pair, F_is_name_pair⟩ := c.def_ 2 (d := d_is_name_pair) rfl
  obtain ⟨fd_is_houses, F_is_houses⟩ := c.def_ 3 (d := d_is_houses) rfl
  obtain ⟨fd_is_wire, F_is_wire⟩ := c.def_ 4 (d := d_is_wire) rfl
  obtain ⟨fd_is_set_among, F_is_set_among⟩ := c.def_ 5 (d := d_is_set_among) rfl
  obtain ⟨fd_is_wire_among, F_is_wire_among⟩ := c.def_ 6 (d := d_is_wire_among) rfl
  obtain ⟨fd_lets_net, F_lets_net⟩ := c.def_ 7 (d := d_lets_net) rfl
  obtain ⟨fd_need_net, F_need_net⟩ := c.def_ 8 (d := d_need_net) rfl
  obtain ⟨fd_need_house, F_need_house⟩ := c.def_ 9 (d := d_need_house) rfl
  obtain ⟨fd_need_houses, F_need_houses⟩ := c.def_ 10 (d := d_need_houses) rfl
  obtain ⟨fd_into_of, F_into_of⟩ := c.def_ 11 (d := d_into_of) rfl
  obtain ⟨fd_out_of, F_out_of⟩ := c.def_ 12 (d := d_out_of) rfl
  obtain ⟨fd_between, F_between⟩ := c.def_ 13 (d := d_between) rfl
  obtain ⟨fd__law_feed, F__law_feed⟩ := c.def_ 14 (d := d__law_feed) rfl
  obtain ⟨fd__law_draw, F__law_draw⟩ := c.def_ 15 (d := d__law_draw) rfl
  obtain ⟨fd__law_any, F__law_any⟩ := c.def_ 16 (d := d__law_any) rfl
  obtain ⟨fd__law_same, F__law_same⟩ := c.def_ 17 (d := d__law_same) rfl
  obtain ⟨fd__law_names, F__law_names⟩ := c.def_ 18 (d := d__law_names) rfl
  obtain ⟨fd__law_web, F__law_web⟩ := c.def_ 19 (d := d__law_web) rfl
  obtain ⟨fd__law_sets, F__law_sets⟩ := c.def_ 20 (d := d__law_sets) rfl
  obtain ⟨fd__law_is_right, F__law_is_right⟩ := c.def_ 21 (d := d__law_is_right) rfl
  obtain ⟨fd_law, F_law⟩ := c.def_ 22 (d := d_law) rfl
  have g_is_pair := He.glo_ok X G (c.fact 0 (f := .glo "is_pair") rfl)
  have g_is_name := He.glo_ok X G (c.fact 1 (f := .glo "is_name") rfl)
  have g_is_name_pair := He.glo_ok X G (c.fact 2 (f := .glo "is_name_pair") rfl)
  have g_is_houses := He.glo_ok X G (c.fact 3 (f := .glo "is_houses") rfl)
  have g_is_wire := He.glo_ok X G (c.fact 4 (f := .glo "is_wire") rfl)
  have g_is_set_among := He.glo_ok X G (c.fact 5 (f := .glo "is_set_among") rfl)
  have g_is_wire_among := He.glo_ok X G (c.fact 6 (f := .glo "is_wire_among") rfl)
  have g_lets_net := He.glo_ok X G (c.fact 7 (f := .glo "lets_net") rfl)
  have g_need_net := He.glo_ok X G (c.fact 8 (f := .glo "need_net") rfl)
  have g_need_house := He.glo_ok X G (c.fact 9 (f := .glo "need_house") rfl)
  have g_need_houses := He.glo_ok X G (c.fact 10 (f := .glo "need_houses") rfl)
  have g_into_of := He.glo_ok X G (c.fact 11 (f := .glo "into_of") rfl)
  have g_out_of := He.glo_ok X G (c.fact 12 (f := .glo "out_of") rfl)
  have g_between := He.glo_ok X G (c.fact 13 (f := .glo "between") rfl)
  have g__law_feed := He.glo_ok X G (c.fact 14 (f := .glo "_law_feed") rfl)
  have g__law_draw := He.glo_ok X G (c.fact 15 (f := .glo "_law_draw") rfl)
  have g__law_any := He.glo_ok X G (c.fact 16 (f := .glo "_law_any") rfl)
  have g__law_same := He.glo_ok X G (c.fact 17 (f := .glo "_law_same") rfl)
  have g__law_names := He.glo_ok X G (c.fact 18 (f := .glo "_law_names") rfl)
  have g__law_web := He.glo_ok X G (c.fact 19 (f := .glo "_law_web") rfl)
  have g__law_sets := He.glo_ok X G (c.fact 20 (f := .glo "_law_sets") rfl)
  have g__law_is_right := He.glo_ok X G (c.fact 21 (f := .glo "_law_is_right") rfl)
  have g_law := He.glo_ok X G (c.fact 22 (f := .glo "law") rfl)
  have b_all := He.free_ok X G (c.fact 23 (f := .free "all") rfl)
  have b_enumerate := He.free_ok X G (c.fact 24 (f := .free "enumerate") rfl)
  have b_int := He.free_ok X G (c.fact 25 (f := .free "int") rfl)
  have b_isinstance := He.free_ok X G (c.fact 26 (f := .free "isinstance") rfl)
  have b_len := He.free_ok X G (c.fact 27 (f := .free "len") rfl)
  have b_range := He.free_ok X G (c.fact 28 (f := .free "range") rfl)
  have b_repr := He.free_ok X G (c.fact 29 (f := .free "repr") rfl)
  have b_sorted := He.free_ok X G (c.fact 30 (f := .free "sorted") rfl)
  have b_str := He.free_ok X G (c.fact 31 (f := .free "str") rfl)
  have b_tuple := He.free_ok X G (c.fact 32 (f := .free "tuple") rfl)
  have b_zip := He.free_ok X G (c.fact 33 (f := .free "zip") rfl)
  have e := hfa.symm.trans g_law
  cases e
  have bl := FunD.bindsA (ps := ["_law_script"]) F_law fun _ _ _ _ _ _ us hl => match us, hl with | [_], _ => rfl
  refine ⟨fd_law, fun s v => bl s [v] rfl, fun base _ _ => ?_⟩
  have C_is_pair : Cal P w K mg base "is_pair" 1 ["thing"] (spP 1 (runP 1 m_is_pair)) _ _ := ⟨ok_is_pair b_isinstance b_len b_tuple  F_is_pair, g_is_pair, F_is_pair.kp, FunD.bindsN F_is_pair fun _ _ _ _ _ _ us hl => match us, hl with | [_], _ => rfl⟩
  have C_is_name : Cal P w K mg base "is_name" 1 ["thing"] (spP 1 (runP 2 m_is_name)) _ _ := ⟨ok_is_name b_all b_isinstance b_len b_str  F_is_name, g_is_name, F_is_name.kp, FunD.bindsN F_is_name fun _ _ _ _ _ _ us hl => match us, hl with | [_], _ => rfl⟩
  have C_is_name_pair : Cal P w K mg base "is_name_pair" 2 ["thing"] (spP 1 (runP 1 m_is_name_pair)) _ _ := ⟨ok_is_name_pair C_is_pair C_is_name  F_is_name_pair, g_is_name_pair, F_is_name_pair.kp, FunD.bindsN F_is_name_pair fun _ _ _ _ _ _ us hl => match us, hl with | [_], _ => rfl⟩
  have C_is_houses : Cal P w K mg base "is_houses" 2 ["thing"] (spP 1 (runP 4 m_is_houses)) _ _ := ⟨ok_is_houses b_all b_isinstance b_tuple b_zip C_is_name  F_is_houses, g_is_houses, F_is_houses.kp, FunD.bindsN F_is_houses fun _ _ _ _ _ _ us hl => match us, hl with | [_], _ => rfl⟩
  have C_is_wire : Cal P w K mg base "is_wire" 3 ["thing"] (spP 1 (runP 1 m_is_wire)) _ _ := ⟨ok_is_wire C_is_name_pair  F_is_wire, g_is_wire, F_is_wire.kp, FunD.bindsN F_is_wire fun _ _ _ _ _ _ us hl => match us, hl with | [_], _ => rfl⟩
  have C_is_set_among : Cal P w K mg base "is_set_among" 3 ["thing", "houses"] (spP 2 (runP 3 m_is_set_among)) _ _ := ⟨ok_is_set_among b_all C_is_houses  F_is_set_among, g_is_set_among, F_is_set_among.kp, FunD.bindsN F_is_set_among fun _ _ _ _ _ _ us hl => match us, hl with | [_, _], _ => rfl⟩
  have C_is_wire_among : Cal P w K mg base "is_wire_among" 4 ["thing", "houses"] (spP 2 (runP 2 m_is_wire_among)) _ _ := ⟨ok_is_wire_among C_is_wire  F_is_wire_among, g_is_wire_among, F_is_wire_among.kp, FunD.bindsN F_is_wire_among fun _ _ _ _ _ _ us hl => match us, hl with | [_, _], _ => rfl⟩
  have C_lets_net : Cal P w K mg base "lets_net" 5 ["thing"] (spP 1 (runP 7 m_lets_net)) _ _ := ⟨ok_lets_net b_enumerate b_isinstance b_len b_tuple C_is_pair C_is_houses C_is_wire_among  F_lets_net, g_lets_net, F_lets_net.kp, FunD.bindsN F_lets_net fun _ _ _ _ _ _ us hl => match us, hl with | [_], _ => rfl⟩
  have C_need_net : Cal P w K mg base "need_net" 6 ["net"] (spP 1 (runP 1 m_need_net)) _ _ := ⟨ok_need_net C_lets_net  F_need_net, g_need_net, F_need_net.kp, FunD.bindsN F_need_net fun _ _ _ _ _ _ us hl => match us, hl with | [_], _ => rfl⟩
  have C_need_house : Cal P w K mg base "need_house" 1 ["net", "house"] (spP 2 (runP 2 m_need_house)) _ _ := ⟨ok_need_house   F_need_house, g_need_house, F_need_house.kp, FunD.bindsN F_need_house fun _ _ _ _ _ _ us hl => match us, hl with | [_, _], _ => rfl⟩
  have C_need_houses : Cal P w K mg base "need_houses" 4 ["net", "houses"] (spP 2 (runP 2 m_need_houses)) _ _ := ⟨ok_need_houses C_is_set_among  F_need_houses, g_need_houses, F_need_houses.kp, FunD.bindsN F_need_houses fun _ _ _ _ _ _ us hl => match us, hl with | [_, _], _ => rfl⟩
  have C_into_of : Cal P w K mg base "into_of" 7 ["net", "houses"] (spP 2 (runP 5 m_into_of)) _ _ := ⟨ok_into_of b_enumerate b_tuple C_need_net C_need_houses  F_into_of, g_into_of, F_into_of.kp, FunD.bindsN F_into_of fun _ _ _ _ _ _ us hl => match us, hl with | [_, _], _ => rfl⟩
  have w_into_of_10 : ∀ (s : Shared) (ws : List Value), (perm [1, 0] ws).length = 2 → BindsTo s fd_into_of ⟨[], (["houses", "net"] : List Str).zip ws⟩ ((["net", "houses"] : List Str).zip (perm [1, 0] ws)) := kw_of (ps := ["net", "houses"]) F_into_of fun _ _ _ _ _ _ ws hl => match ws, hl with | [], hl => by simp [perm] at hl | [_], hl => by simp [perm] at hl | _ :: _ :: _, _ => rfl
  have C_out_of : Cal P w K mg base "out_of" 7 ["net", "houses"] (spP 2 (runP 5 m_out_of)) _ _ := ⟨ok_out_of b_enumerate b_tuple C_need_net C_need_houses  F_out_of, g_out_of, F_out_of.kp, FunD.bindsN F_out_of fun _ _ _ _ _ _ us hl => match us, hl with | [_, _], _ => rfl⟩
  have w_out_of_10 : ∀ (s : Shared) (ws : List Value), (perm [1, 0] ws).length = 2 → BindsTo s fd_out_of ⟨[], (["houses", "net"] : List Str).zip ws⟩ ((["net", "houses"] : List Str).zip (perm [1, 0] ws)) := kw_of (ps := ["net", "houses"]) F_out_of fun _ _ _ _ _ _ ws hl => match ws, hl with | [], hl => by simp [perm] at hl | [_], hl => by simp [perm] at hl | _ :: _ :: _, _ => rfl
  have C_between : Cal P w K mg base "between" 7 ["net", "source", "target"] (spP 3 (runP 5 m_between)) _ _ := ⟨ok_between b_enumerate b_tuple C_need_net C_need_house  F_between, g_between, F_between.kp, FunD.bindsN F_between fun _ _ _ _ _ _ us hl => match us, hl with | [_, _, _], _ => rfl⟩
  have w_between_210 : ∀ (s : Shared) (ws : List Value), (perm [2, 1, 0] ws).length = 3 → BindsTo s fd_between ⟨[], (["target", "source", "net"] : List Str).zip ws⟩ ((["net", "source", "target"] : List Str).zip (perm [2, 1, 0] ws)) := kw_of (ps := ["net", "source", "target"]) F_between fun _ _ _ _ _ _ ws hl => match ws, hl with | [], hl => by simp [perm] at hl | [_], hl => by simp [perm] at hl | [_, _], hl => by simp [perm] at hl | _ :: _ :: _ :: _, _ => rfl
  have C__law_feed : Cal P w K mg base "_law_feed" 1 ["_law_script"] (spFeed K) _ _ := ⟨ok__law_feed b_int  F__law_feed, g__law_feed, F__law_feed.kp, FunD.bindsN F__law_feed fun _ _ _ _ _ _ us hl => match us, hl with | [_], _ => rfl⟩
  have C__law_draw : Cal P w K mg base "_law_draw" 1 ["_law_feed_here", "_law_many"] (spF 2 (runF 7 m__law_draw)) _ _ := ⟨ok__law_draw b_int b_len  F__law_draw, g__law_draw, F__law_draw.kp, FunD.bindsN F__law_draw fun _ _ _ _ _ _ us hl => match us, hl with | [_, _], _ => rfl⟩
  have C__law_any : Cal P w K mg base "_law_any" 2 ["_law_feed_here", "_law_some"] (spF 2 (runF 2 m__law_any)) _ _ := ⟨ok__law_any b_len C__law_draw  F__law_any, g__law_any, F__law_any.kp, FunD.bindsN F__law_any fun _ _ _ _ _ _ us hl => match us, hl with | [_, _], _ => rfl⟩
  have C__law_same : Cal P w K mg base "_law_same" 1 ["_law_told", "_law_due"] (spP 2 (runP 2 m__law_same)) _ _ := ⟨ok__law_same b_repr  F__law_same, g__law_same, F__law_same.kp, FunD.bindsN F__law_same fun _ _ _ _ _ _ us hl => match us, hl with | [_, _], _ => rfl⟩
  have C__law_names : Cal P w K mg base "_law_names" 3 ["_law_feed_here"] (spF 1 (runF 4 m__law_names)) _ _ := ⟨ok__law_names C__law_draw C__law_any  F__law_names, g__law_names, F__law_names.kp, FunD.bindsN F__law_names fun _ _ _ _ _ _ us hl => match us, hl with | [_], _ => rfl⟩
  have C__law_web : Cal P w K mg base "_law_web" 4 ["_law_feed_here", "_law_most", "_law_many"] (spF 3 (runF 9 m__law_web)) _ _ := ⟨ok__law_web b_len b_range b_sorted b_tuple C__law_draw C__law_any C__law_names  F__law_web, g__law_web, F__law_web.kp, FunD.bindsN F__law_web fun _ _ _ _ _ _ us hl => match us, hl with | [_, _, _], _ => rfl⟩
  have C__law_sets : Cal P w K mg base "_law_sets" 1 ["_law_names_here"] (spP 1 (runP 4 m__law_sets)) _ _ := ⟨ok__law_sets   F__law_sets, g__law_sets, F__law_sets.kp, FunD.bindsN F__law_sets fun _ _ _ _ _ _ us hl => match us, hl with | [_], _ => rfl⟩
  have C__law_is_right : Cal P w K mg base "_law_is_right" 8 ["_law_web_here", "_law_some"] (spP 2 (runP 8 m__law_is_right)) _ _ := ⟨ok__law_is_right b_len b_range b_tuple C_into_of C_out_of C__law_same w_out_of_10 w_into_of_10 F__law_is_right, g__law_is_right, F__law_is_right.kp, FunD.bindsN F__law_is_right fun _ _ _ _ _ _ us hl => match us, hl with | [_, _], _ => rfl⟩
  exact ok_law b_len b_range b_repr b_tuple C_between C__law_feed C__law_same C__law_web C__law_sets C__law_is_right w_between_210 F_law ok
end G06
open PySem PySem.W PySem.Calls PyProof.Rows
theorem G06.holds (ok : AP.lawOk 10 G06.m_law) : PySem.Challenge.rw_allpieces_k06_whole_wires_about.Holds := by
  w_on; o_law
  refine HandSHeadRun.head_any (r := OpenLaw.row PySem.Challenge.rw_allpieces_k06_whole_wires_about) (q := view (OpenLaw.row PySem.Challenge.rw_allpieces_k06_whole_wires_about).prog [33]) (H := G06.hk) (ob := G06.ob) (M := 4000) (loose := ["PieceError", "PaperError", "NetError", "InvalidPaper", "NotUsable", "is_pair", "is_name", "is_name_pair", "is_houses", "is_wire", "is_set_among", "is_wire_among", "lets_net", "need_net", "need_house", "need_houses", "into_of", "out_of", "between", "_law_feed", "_law_draw", "_law_any", "_law_same", "_law_names", "_law_web", "_law_sets", "_law_is_right"]) (d := HandSHeadRun.topDef (OpenLaw.row PySem.Challenge.rw_allpieces_k06_whole_wires_about).prog 33) (kwd := []) G06.ob_eq
    (by kernel_rfl) (fun s => by kernel_rfl) G06.run (by kernel_rfl) (by kernel_rfl) (by kernel_rfl) (by rfl) (by first | assumption | decide +kernel) (by decide +kernel) ⟨rfl, rfl, rfl, rfl, rfl, by decide +kernel⟩ ?hw ?hc
  case hw => w_witness2
  case hc =>
    refine AP.end_law (l := PySem.Challenge.rw_allpieces_k06_whole_wires_about) (k := 9) (x := "_law_script") rfl (by kernel_rfl) ⟨rfl, by decide, by decide⟩ ?F
    intro w mg fa h Y G hmg0
    obtain ⟨K, KX, c⟩ := Y
    have hmg : mg ("law" : PySem.Str) = some (.ref fa) := by
      have e : (HandSHeadRun.topDef (OpenLaw.row PySem.Challenge.rw_allpieces_k06_whole_wires_about).prog 33).name = ("law" : PySem.Str) := by kernel_rfl
      rw [← e]
      exact hmg0
    obtain ⟨fd, hb, hF⟩ := G06.facts (P := (PySem.Challenge.rw_allpieces_k06_whole_wires_about).prog) (w := w) KX G hmg c ok
    exact ⟨K, fd, KX, hb, hF⟩

namespace G06
open PySem PySem.Spec PyProof.Rows L2 RZ AP
theorem law_ok : lawOk 10 m_law := by
  intro ns _
  have hf : FeedOk (feed0 ns) := ⟨ns, 0, 0, 0, rfl⟩
  show ∃ o, m_law ⟨[none, some (.m 0), none, none, none, none, none, none, none, none], [feed0 ns]⟩ = _
  unfold m_law
  obtain ⟨s', el, f, y2, y3, y4, y5, y6, y7, y8, y9, h1, rfl⟩ := mFor_eval (im := mRange (mCons (mC (.int 3)) mNil)) (g := mgName 2) (b := (mSeq (mAsg (mCallF 3 (runF 9 m__law_web) (mCons (mVar 1) (mCons (mC (.int 5)) (mCons (mC (.int 8)) mNil)))) (mgName 3)) (mSeq (mAsg (mCB gRepr (mCons (mVar 3) mNil)) (mgName 4)) (mSeq (mIfS (mTest (mOp gNe (mDat (mLc (mAnyI (mCall 1 (runP 4 m__law_sets) (mCons (mOp gIx (mVar 3) (mC (.int 0))) mNil))) (mgName 8) (mNot (mTr (mCall 2 (runP 8 m__law_is_right) (mCons (mVar 3) (mCons (mVar 8) mNil))))) (mVar 8) [8])) (mLst mNil))) (mRet (mC (.bool false))) mNext) (mSeq (mFor (mAnyI (mOp gIx (mVar 3) (mC (.int 0)))) (mgName 5) (mFor (mAnyI (mOp gIx (mVar 3) (mC (.int 0)))) (mgName 6) (mSeq (mAsg (mCB gTuple (mCons (mDat (mLc (mRange (mCons (mCB gLen (mCons (mOp gIx (mVar 3) (mC (.int 1))) mNil)) mNil)) (mgName 9) (mTest (mOp gEq (mOp gIx (mOp gIx (mVar 3) (mC (.int 1))) (mVar 9)) (mTup (mCons (mVar 5) (mCons (mVar 6) mNil))))) (mVar 9) [9])) mNil)) (mgName 7)) (mIfS (mNot (mTr (mCall 2 (runP 2 m__law_same) (mCons (mLst (mCons (mCall 3 (runP 5 m_between) (mCons (mVar 3) (mCons (mVar 5) (mCons (mVar 6) mNil)))) (mCons (mCallK 3 (runP 5 m_between) [2, 1, 0] (mCons (mVar 6) (mCons (mVar 5) (mCons (mVar 3) mNil)))) mNil))) (mCons (mLst (mCons (mVar 7) (mCons (mVar 7) mNil))) mNil))))) (mRet (mC (.bool false))) mNext)))) (mIfS (mTest (mOp gNe (mCB gRepr (mCons (mVar 3) mNil)) (mVar 4))) (mRet (mC (.bool false))) mNext))))))
    (s := ⟨[none, some (.m 0), none, none, none, none, none, none, none, none], [feed0 ns]⟩) (items := rangeD 3) (o1 := [feed0 ns])
    (fun _ s => ∃ f y2 y3 y4 y5 y6 y7 y8 y9, FeedOk f ∧ s = (⟨[none, some (.m 0), y2, y3, y4, y5, y6, y7, y8, y9], [f]⟩ : S)) rfl ⟨_, _, _, _, _, _, _, _, _, hf, rfl⟩ (by
      rintro i d s hi ⟨f, y2, y3, y4, y5, y6, y7, y8, y9, h1, rfl⟩
      obtain ⟨f', z3, z4, z5, z6, z7, h2, e⟩ := lap_ev h1 (some (.d d)) y3 y4 y5 y6 y7 y8 y9
      exact ⟨_, _, rfl, e, _, _, _, _, _, _, _, _, _, h2, rfl⟩)
  exact ⟨[f], by simp only [mSeq, mPut, mOp, mVar, mC, mIfS, mTest, mTr, mNot, mAsg, mgName, mgTup, mgCons, mgNil, mCB, mCons, mNil, mRet, mNext, mPar, mParO, mLstN, mAnd, mOr, mAndV, mOrV, mNotV, mIf, mTup, mLst, mSl, mPart, mNoPart, mCall, mCallK, mCallF, mDrop, mDat, mApp, mChain, mIsi, mRange, mItems, mEnum, mAnyI, mYes, seqOf, frz, isiB, truD, perm2, perm3, AP.S.on, vw, vws, dats, List.getElem?_cons_zero, List.getElem?_cons_succ, List.set_cons_zero, List.set_cons_succ, List.map_cons, List.map_nil, List.length_cons, List.length_nil, List.cons_append, List.nil_append, and_self, if_true, decide_true, decide_false, Bool.and_self, Bool.not_true, Bool.not_false, Nat.reduceAdd, Nat.reduceLeDiff, Nat.zero_add, Int.reduceLT, el]⟩
end G06
theorem PySem.Challenge.cw_allpieces_k06_whole_wires_about_holds : PySem.Challenge.rw_allpieces_k06_whole_wires_about.Holds :=
  G06.holds G06.law_ok

