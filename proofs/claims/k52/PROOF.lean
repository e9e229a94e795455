import PyProof.Rows.All
import Wide.All
import OpenK.AllK
import Wide.FinOn
import HandS.ForMost
import HandS.Deep
import HandS.Walk
import HandS.Zip
import HandS.IsInst
import HandS.TupAny
import HandS.TupMul
import HandS.DictComp
import HandS.WordsExc
import HandS.Defaults
import HandS.Flow
import HandS.Wide
import HandS.Lambda
import HandS.Conv
import PyProof.ReprRoads
import PyProof.CallFns
import KE.GoesEnum
import KE.GoesMore
import PyProof.StrLawsRepr
import HandS.ExcCtx
import HandS.SuiteRaise
import HandS.RaiseFrom
import HandS.ExcInit
import HandS.ExcInitHot
import HandS.HotCalls
import HandS.HeadHook1
import HandS.SetFor
import HandS.ExcIs
import HandS.ExcField
import KE.KExcIs
import HandS.Star
import HandS.FStr
import HandS.More
import HandS.RaiseMore
import HandS.ExcBuiltin
import HandS.Sort
import HandS.Style
import HandS.EndTab
import HandS.HeadHook3
import HandS.HeadHook4
import PyProof.TupleOfSeq
import HandS.Strs
import PyProof.ListStr
import HandS.SortKw
import HandS.Replace
import HandS.SetKeys
import KE.DataCmp
import KE.DataMinMax
import KE.SortData
import PyProof.Rows.SeqCalls
import PyProof.Rows.FactsN_abs
import HandS.TupSets
import KE.KDictKeyed
import KE.SortLaws
import KE.KDictZip
import PyProof.Draws
import KE.GoesEnumKw
import KE.KUnpackStar
import PyProof.StrOps2
import KE.KStateDown
import Lean
import HandS.Head0
import HandS.Head1
import HandS.Head2
import HandS.HeadEnd
import HandS.HeadHook2
import PySem.Challenge.RW_allpieces_k52_further_told
set_option Elab.async false
set_option linter.all false
set_option maxRecDepth 100000
set_option maxHeartbeats 0
namespace AP
open PySem PySem.Spec PyProof.Rows L2
abbrev tupOb (us : List Value) : Obj := { cls := .type "tuple", data := .seq us.toArray }
def nTup (xs : List V) (H : Hp) (Q : VK) : Prop := ∀ p o, H p = none → o.dict = none → Q (.ref p) (upd H p (.frz o (.tup xs)))
section
variable {X : Cx} {pins : List (Addr × Obj)} {σ : L2.St} {H : Hp} {s : Shared} {vs : List V} {us : List Value} {Q : VK}
theorem laidTup {h' : Heap} {tk : Nat} (I : Inv X pins σ H { s with heap := h', toks := tk }) (r : Vals vs us) (hz : vs.length ≤ sizeLine) (q : nTup vs H Q) :
    EP X pins σ Q (.ref h'.objs.size) { s with heap := h'.push (tupOb us), toks := tk } := by
  refine ⟨.ref h'.objs.size, _, I.laid (t' := tk) (o := .frz (tupOb us) (.tup vs)) (fun b ob e => Heap.get?_push_of_some _ e) (Nat.le_refl _) ?_, rfl, q _ (tupOb us) (I.hok.fresh (Nat.le_refl _)) rfl⟩
  exact ⟨Heap.get?_push_size _ rfl, hz, us, r, ⟨_, Heap.get?_push_size _ rfl, rfl, _, rfl⟩⟩
end
section
variable {X : Cx} {es : List Expr} {t : TA} {pos : Pos}
def tTupF (t : TA) : TE := fun σ H Q => t σ H fun xs H1 => xs.length ≤ sizeLine ∧ nTup xs H1 Q
theorem pe_tupF {x1} (h : PA X es t) : PE X (.Tuple es x1 pos) (tTupF t) :=
  ⟨fun pins s σ H Q I hq => wpAny_Tuple_spliced (thn (h.run pos pins s σ H _ I hq) fun us s1 ⟨xs, H1, I1, r, z, q⟩ => ⟨by rw [← r.length]; exact z, laidTup (s := s1) (h' := s1.heap) (tk := s1.toks) I1 r z q⟩)⟩
def rCatF (K : PySem.W.Frag) : R2 := fun x y H Q => ∃ a b xs ys, x = .ref a ∧ y = .ref b ∧ SqT K H a xs ∧ SqT K H b ys ∧ xs.length + ys.length ≤ sizeLine ∧
  (xs = [] → Q (.ref b) H) ∧ (xs ≠ [] → ys = [] → Q (.ref a) H) ∧ (xs ≠ [] → ys ≠ [] → nTup (xs ++ ys) H Q)
theorem op_catF : OpR X (binaryOp .Add) (rCatF X.K) := by
  intro pins s σ H x y v u Q I rx ry h
  obtain ⟨a, b, xs, ys, rfl, rfl, ha, hb, hz, q0, q1, q2⟩ := h
  cases rx
  cases ry
  obtain ⟨its, r1, p1, _⟩ := I.tuple ha
  obtain ⟨its2, r2, p2, _⟩ := I.tuple hb
  by_cases hx : xs = []
  · subst hx
    cases r1
    exact cat_tup0 p1 p2 ⟨.ref b, H, I, rfl, q0 rfl⟩
  · refine HT.cat_tup p1 p2 (fun z => hx (r1.nil_iff.mp z)) (fun z => ⟨.ref a, H, I, rfl, q1 hx (r2.nil_iff.mp z)⟩) (fun z => ?_) (by rw [← r1.length, ← r2.length]; exact hz)
    exact laidTup (s := s) (h' := s.heap) (tk := s.toks) I (r1.append r2) (by rw [List.length_append]; exact hz) (q2 hx fun w => z (r2.nil_iff.mpr w))
def rSlF (K : PySem.W.Frag) : V → Option Int → Option Int → Hp → VK → Prop := fun x lo hi H Q => ∃ a xs, x = .ref a ∧ SqT K H a xs ∧
  (HT.sIx xs.length 0 lo = 0 ∧ HT.sIx xs.length xs.length hi = xs.length → Q (.ref a) H) ∧ (¬ (HT.sIx xs.length 0 lo = 0 ∧ HT.sIx xs.length xs.length hi = xs.length) → nTup (cutV xs lo hi) H Q)
theorem sl_tupF : SlR X (rSlF X.K) := by
  intro pins s σ H x v vl vu lo hi sl Q I rx hs pl pu h
  obtain ⟨a, xs, rfl, hx, q1, q2⟩ := h
  cases rx
  obtain ⟨its, r, ht, hz⟩ := I.tuple hx
  have hlen : its.toArray.size = xs.length := by rw [List.size_toArray]; exact r.length.symm
  refine ⟨"tuple", _, PyProof.Rows.slot_tuple_getitem.lookup, ht.typeIs, ?_⟩
  by_cases hw : HT.sIx xs.length 0 lo = 0 ∧ HT.sIx xs.length xs.length hi = xs.length
  · exact getItem_tuple_whole ht hs pl pu (by rw [hlen]; exact hw) ⟨.ref a, H, I, rfl, q1 hw⟩
  · refine HT.getItem_tuple_cut ht hs pl pu (by rw [hlen]; exact hw) ?_ (by rw [hlen]; exact hz)
    rw [hlen]
    exact laidTup (s := s) (h' := s.heap) (tk := s.toks) I ((r.drop (HT.sIx xs.length 0 lo)).take (HT.sIx xs.length xs.length hi - HT.sIx xs.length 0 lo)) (Nat.le_trans (cutV_length xs lo hi) hz) (q2 hw)
def rTupleF (K : PySem.W.Frag) : List V → Hp → VK → Prop := fun xs H Q => ∃ p ys, xs = [.ref p] ∧ ((SqL K H p ys ∧ nTup ys H Q) ∨ (SqT K H p ys ∧ Q (.ref p) H))
theorem call_tupleF : CallR X (.type "tuple") (rTupleF X.K) := by
  intro pins s σ H xs us Q I r h
  obtain ⟨p, ys, rfl, h⟩ := h
  obtain ⟨u, rfl, rx⟩ := vals1 r
  cases rx
  rcases h with ⟨hq, q⟩ | ⟨hq, q⟩
  · obtain ⟨its, r', pl, hz⟩ := I.list hq
    have hl := r'.length
    refine call_tuple_list pl.isList (fun h' kp => ?_) (by rw [List.size_toArray]; omega)
    exact laidTup (s := s) (h' := h') (tk := s.toks) (I.kept (t' := s.toks) kp) r' hz q
  · obtain ⟨its, r', pl, hz⟩ := I.tuple hq
    exact call_tuple_same pl ⟨.ref p, H, I, rfl, q⟩
end
end AP
namespace AP
open PySem PySem.Spec PyProof.Rows L2
section
variable {X : Cx}
end
end AP

namespace AP
noncomputable section
open PySem PySem.Spec PyProof.Rows L2
class Tbls where
  T : List (Addr × Str)
variable [Tbls]
abbrev D := PyData
noncomputable def gS {α : Type} (l : List α) : Nat → Option α := List.rec (motive := fun _ => Nat → Option α) (fun _ => none) (fun a _ ih i => Nat.rec (motive := fun _ => Option α) (some a) (fun j _ => ih j) i) l
noncomputable def sS {α : Type} (v : α) (l : List α) : Nat → List α := List.rec (motive := fun _ => Nat → List α) (fun _ => []) (fun a r ih i => Nat.rec (motive := fun _ => List α) (v :: r) (fun j _ => a :: ih j) i) l
theorem gS_eq {α : Type} (l : List α) (i : Nat) : gS l i = l[i]? := by
  induction l generalizing i with
  | nil => rfl
  | cons a r ih =>
    cases i with
    | zero => rfl
    | succ j => exact ih j
theorem sS_eq {α : Type} (v : α) (l : List α) (i : Nat) : sS v l i = l.set i v := by
  induction l generalizing i with
  | nil => rfl
  | cons a r ih =>
    cases i with
    | zero => rfl
    | succ j => exact congrArg (a :: ·) (ih j)
abbrev Zs := Addr → Prop
def kD : Key → D
  | .inl i => .int i
  | .inr x => .str x
theorem kD_inj {a b : Key} (h : kD a = kD b) : a = b := by
  cases a <;> cases b <;> simp_all [kD]
def intsD : List D → Bool
  | [] => true
  | .int _ :: r => intsD r
  | _ => false
def tupsD : List D → Bool
  | [] => true
  | .tuple _ :: r => tupsD r
  | _ => false
def weakD (ds : List D) : Bool := decide (ds.length = 2) && !intsD ds && !tupsD ds
def TupAt (H : Hp) (a : Addr) (xs : List V) (w : Bool) : Prop := (∃ o, H a = some (.frz o (.tup xs)) ∧ o.dict = none) ∨ (w = true ∧ H a = some (.tup xs))
theorem TupAt.sq {H : Hp} {a : Addr} {xs : List V} {w : Bool} {K : PySem.W.Frag} (h : TupAt H a xs w) : SqT K H a xs := by
  rcases h with ⟨o, e, _⟩ | ⟨_, e⟩
  · exact .inl (.inr ⟨o, e⟩)
  · exact .inl (.inl e)
mutual
inductive Rp (Z : Zs) (H : Hp) : V → D → Prop
  | non : Rp Z H .non .none
  | bl (b : Bool) : Rp Z H (.bl b) (.bool b)
  | int (i : Int) : Rp Z H (.int i) (.int i)
  | str (x : Str) : Rp Z H (.str x) (.str x)
  | lst {a : Addr} {xs : List V} {ds : List D} : ¬ Z a → H a = some (.lst xs) → RpA Z H xs ds → Rp Z H (.ref a) (.list ds)
  | tup {a : Addr} {xs : List V} {ds : List D} : ¬ Z a → TupAt H a xs (weakD ds) → RpA Z H xs ds → Rp Z H (.ref a) (.tuple ds)
  | dct {a : Addr} {kvs : List (Key × V)} {ps : List (D × D)} : ¬ Z a → L2.Rd H a (.dK kvs) → RpK Z H kvs ps → Rp Z H (.ref a) (.dict ps)
inductive RpA (Z : Zs) (H : Hp) : List V → List D → Prop
  | nil : RpA Z H [] []
  | cons {v : V} {vs : List V} {d : D} {ds : List D} : Rp Z H v d → RpA Z H vs ds → RpA Z H (v :: vs) (d :: ds)
inductive RpK (Z : Zs) (H : Hp) : List (Key × V) → List (D × D) → Prop
  | nil : RpK Z H [] []
  | cons {k : Key} {v : V} {kvs : List (Key × V)} {d : D} {ps : List (D × D)} : Rp Z H v d → RpK Z H kvs ps → RpK Z H ((k, v) :: kvs) ((kD k, d) :: ps)
end
def nt (o : HO) : Prop := ∀ ps, o ≠ .tbl ps
theorem nt_lst {xs : List V} : nt (.lst xs) := fun _ z => nomatch z
theorem nt_tup {xs : List V} : nt (.tup xs) := fun _ z => nomatch z
theorem nt_frz {o : Obj} {u : HO} : nt (.frz o u) := fun _ z => nomatch z
theorem TupAt.mono {H H' : Hp} {a : Addr} {xs : List V} {w : Bool} (h : TupAt H a xs w) (k : ∀ o, H a = some o → nt o → H' a = some o) : TupAt H' a xs w := by
  rcases h with ⟨o, e, d⟩ | ⟨q, e⟩
  · exact .inl ⟨o, k _ e nt_frz, d⟩
  · exact .inr ⟨q, k _ e nt_tup⟩
theorem TupAt.ex {H : Hp} {a : Addr} {xs : List V} {w : Bool} (h : TupAt H a xs w) : ∃ o, H a = some o ∧ nt o := by
  rcases h with ⟨o, e, d⟩ | ⟨q, e⟩
  · exact ⟨_, e, nt_frz⟩
  · exact ⟨_, e, nt_tup⟩
theorem TupAt.ty {H : Hp} {a : Addr} {xs : List V} {w : Bool} {K : PySem.W.Frag} (h : TupAt H a xs w) : TyX K H (.ref a) (.type "tuple") := by
  rcases h with ⟨o, e, _⟩ | ⟨_, e⟩
  · exact .fTuple e
  · exact .base (.tup e)
theorem TupAt.new {H : Hp} {p : Addr} {o : Obj} {xs : List V} {w : Bool} (h : o.dict = none) : TupAt (upd H p (.frz o (.tup xs))) p xs w := .inl ⟨o, upd_same, h⟩
theorem nt_rng {lo hi : Int} : nt (.rng lo hi) := fun _ z => nomatch z
theorem nt_dK {xs : List (Key × V)} : nt (.dK xs) := fun _ z => nomatch z
def Has (H : Hp) (a : Addr) : Prop := ∃ o, H a = some o ∧ nt o
theorem Has.ne {H : Hp} {a : Addr} (h : Has H a) : H a ≠ none := by
  obtain ⟨o, e, _⟩ := h
  rw [e]; exact fun z => nomatch z
structure New (H H' : Hp) : Prop where
  at_ : ∀ a o, H a = some o → nt o → H' a = some o
  tab : LamX.Tabs Tbls.T H → LamX.Tabs Tbls.T H'
theorem New.dom {H H' : Hp} (n : New H H') (a : Addr) (h : Has H a) : Has H' a := by
  obtain ⟨o, e, t⟩ := h
  exact ⟨o, n.at_ a o e t, t⟩
theorem New.of {H H' : Hp} (k : ∀ a o, H a = some o → H' a = some o) : New H H' := ⟨fun a o e _ => k a o e, fun t => t.ext k⟩
theorem New.refl (H : Hp) : New H H := New.of fun _ _ h => h
theorem New.trans {H H1 H2 : Hp} (a : New H H1) (b : New H1 H2) : New H H2 := ⟨fun x o h t => b.at_ x o (a.at_ x o h t) t, fun t => b.tab (a.tab t)⟩
theorem New.upd {H : Hp} {p : Addr} {o : HO} (h : H p = none) : New H (upd H p o) := New.of fun a u e => by
  rw [upd_ne (ne_of_none e h)]; exact e
theorem tab_upd {H : Hp} {a P : Addr} {o o' : HO} {q : Str} (h : H a = some o) (n1 : nt o) (n2 : ∀ φ, o ≠ .ext φ) (t : LamX.TabS H P q) : LamX.TabS (upd H a o') P q := by
  obtain ⟨ps, h1, h2, h3⟩ := t
  have hP : P ≠ a := fun e => by rw [e, h] at h1; exact n1 ps (Option.some.inj h1)
  refine ⟨ps, by rw [upd_ne hP]; exact h1, h2, fun pos cv hc => ?_⟩
  obtain ⟨c, e1, e2⟩ := h3 pos cv hc
  have hc2 : c ≠ a := fun e => by rw [e, h] at e2; exact n2 _ (Option.some.inj e2)
  exact ⟨c, e1, by rw [upd_ne hc2]; exact e2⟩
mutual
theorem Rp.mono {Z Z' : Zs} {H H' : Hp} (k : ∀ a o, ¬ Z a → H a = some o → nt o → ¬ Z' a ∧ H' a = some o) : ∀ {v : V} {d : D}, Rp Z H v d → Rp Z' H' v d
  | _, _, .non => .non
  | _, _, .bl b => .bl b
  | _, _, .int i => .int i
  | _, _, .str x => .str x
  | _, _, .lst z h r => .lst (k _ _ z h nt_lst).1 (k _ _ z h nt_lst).2 (RpA.mono k r)
  | _, _, .tup z h r => .tup (h.ex.elim fun o e => (k _ o z e.1 e.2).1) (h.mono fun o e n => (k _ o z e n).2) (RpA.mono k r)
  | _, _, .dct z h r => .dct (h.elim (fun e => (k _ _ z e nt_dK).1) fun ⟨_, e⟩ => (k _ _ z e nt_frz).1) (h.elim (fun e => .inl (k _ _ z e nt_dK).2) fun ⟨ob, e⟩ => .inr ⟨ob, (k _ _ z e nt_frz).2⟩) (RpK.mono k r)
theorem RpA.mono {Z Z' : Zs} {H H' : Hp} (k : ∀ a o, ¬ Z a → H a = some o → nt o → ¬ Z' a ∧ H' a = some o) : ∀ {vs : List V} {ds : List D}, RpA Z H vs ds → RpA Z' H' vs ds
  | _, _, .nil => .nil
  | _, _, .cons h r => .cons (Rp.mono k h) (RpA.mono k r)
theorem RpK.mono {Z Z' : Zs} {H H' : Hp} (k : ∀ a o, ¬ Z a → H a = some o → nt o → ¬ Z' a ∧ H' a = some o) : ∀ {vs : List (Key × V)} {ds : List (D × D)}, RpK Z H vs ds → RpK Z' H' vs ds
  | _, _, .nil => .nil
  | _, _, .cons h r => .cons (Rp.mono k h) (RpK.mono k r)
end
section
variable {Z : Zs} {H H' : Hp}
theorem Rp.new {v : V} {d : D} (n : New H H') (h : Rp Z H v d) : Rp Z H' v d := h.mono fun a o z e t => ⟨z, n.at_ a o e t⟩
theorem RpA.new {v : List V} {d : List D} (n : New H H') (h : RpA Z H v d) : RpA Z H' v d := h.mono fun a o z e t => ⟨z, n.at_ a o e t⟩
theorem RpK.new {v : List (Key × V)} {d : List (D × D)} (n : New H H') (h : RpK Z H v d) : RpK Z H' v d := h.mono fun a o z e t => ⟨z, n.at_ a o e t⟩
theorem RpA.length : ∀ {vs : List V} {ds : List D}, RpA Z H vs ds → vs.length = ds.length
  | _, _, .nil => rfl
  | _, _, .cons _ r => by simp [RpA.length r]
theorem RpK.length : ∀ {vs : List (Key × V)} {ds : List (D × D)}, RpK Z H vs ds → vs.length = ds.length
  | _, _, .nil => rfl
  | _, _, .cons _ r => by simp [RpK.length r]
theorem RpA.get : ∀ {vs : List V} {ds : List D} {i : Nat} {d : D}, RpA Z H vs ds → ds[i]? = some d → ∃ v, vs[i]? = some v ∧ Rp Z H v d
  | _, _, _, _, .nil, e => by simp at e
  | _, _, 0, _, .cons h _, e => by simp at e; subst e; exact ⟨_, rfl, h⟩
  | _, _, i + 1, d, .cons _ r, e => by
    obtain ⟨v, a, b⟩ := RpA.get (i := i) (d := d) r (by simpa using e)
    exact ⟨v, by simpa using a, b⟩
theorem RpA.getV : ∀ {vs : List V} {ds : List D} {i : Nat} {v : V}, RpA Z H vs ds → vs[i]? = some v → ∃ d, ds[i]? = some d ∧ Rp Z H v d
  | _, _, _, _, .nil, e => by simp at e
  | _, _, 0, _, .cons h _, e => by simp at e; subst e; exact ⟨_, rfl, h⟩
  | _, _, i + 1, v, .cons _ r, e => by
    obtain ⟨d, a, b⟩ := RpA.getV (i := i) (v := v) r (by simpa using e)
    exact ⟨d, by simpa using a, b⟩
theorem RpA.append : ∀ {vs us : List V} {ds es : List D}, RpA Z H vs ds → RpA Z H us es → RpA Z H (vs ++ us) (ds ++ es)
  | _, _, _, _, .nil, s => s
  | _, _, _, _, .cons h r, s => .cons h (RpA.append r s)
theorem RpA.take : ∀ {vs : List V} {ds : List D} (n : Nat), RpA Z H vs ds → RpA Z H (vs.take n) (ds.take n)
  | _, _, 0, _ => .nil
  | _, _, _ + 1, .nil => .nil
  | _, _, n + 1, .cons h r => .cons h (RpA.take n r)
theorem RpA.drop : ∀ {vs : List V} {ds : List D} (n : Nat), RpA Z H vs ds → RpA Z H (vs.drop n) (ds.drop n)
  | _, _, 0, r => r
  | _, _, _ + 1, .nil => .nil
  | _, _, n + 1, .cons _ r => RpA.drop n r
def Rt (Z : Zs) (H : Hp) (v : V) : D → Prop
  | .none => v = .non
  | .bool b => v = .bl b
  | .int i => v = .int i
  | .str x => v = .str x
  | .list ds => ∃ a xs, v = .ref a ∧ H a = some (.lst xs) ∧ RpA Z H xs ds
  | .tuple ds => ∃ a xs, v = .ref a ∧ TupAt H a xs (weakD ds) ∧ RpA Z H xs ds ∧ ¬ Z a
  | .dict ps => ∃ a kvs, v = .ref a ∧ L2.Rd H a (.dK kvs) ∧ RpK Z H kvs ps
theorem Rp.rt {v : V} {d : D} (h : Rp Z H v d) : Rt Z H v d := by
  cases h with
  | non => rfl
  | bl b => rfl
  | int i => rfl
  | str x => rfl
  | lst z e r => exact ⟨_, _, rfl, e, r⟩
  | tup z e r => exact ⟨_, _, rfl, e, r, z⟩
  | dct z e r => exact ⟨_, _, rfl, e, r⟩
theorem Rd.new {a : Addr} {kvs : List (Key × V)} (n : New H H') (h : L2.Rd H a (.dK kvs)) : L2.Rd H' a (.dK kvs) := h.elim (fun e => .inl (n.at_ _ _ e nt_dK)) fun ⟨ob, e⟩ => .inr ⟨ob, n.at_ _ _ e nt_frz⟩
theorem Rt.new {v : V} {d : D} (n : New H H') (h : Rt Z H v d) : Rt Z H' v d := by
  cases d with
  | none => exact h
  | bool b => exact h
  | int i => exact h
  | str x => exact h
  | list ds => obtain ⟨a, xs, e, q, r⟩ := h; exact ⟨a, xs, e, n.at_ _ _ q nt_lst, r.new n⟩
  | tuple ds => obtain ⟨a, xs, e, q, r, z⟩ := h; exact ⟨a, xs, e, q.mono fun o e n2 => n.at_ _ _ e n2, r.new n, z⟩
  | dict ps => obtain ⟨a, xs, e, q, r⟩ := h; exact ⟨a, xs, e, Rd.new n q, r.new n⟩
end
mutual
def noD : D → Bool
  | .list ds => noDs ds
  | .tuple ds => noDs ds
  | .dict _ => false
  | _ => true
def noDs : List D → Bool
  | [] => true
  | d :: ds => noD d && noDs ds
end
mutual
theorem Rp.dp {K : PySem.W.Frag} {Z : Zs} {H : Hp} : ∀ {v : V} {d : D}, Rp Z H v d → noD d = true → Dp K H v d
  | _, _, .non, _ => .non
  | _, _, .bl b, _ => .bl b
  | _, _, .int i, _ => .int i
  | _, _, .str x, _ => .str x
  | _, _, .lst _ h r, e => .lst (SqL.of h) (RpA.dp r (by simpa [noD] using e))
  | _, _, .tup _ h r, e => .tup h.sq (RpA.dp r (by simpa [noD] using e))
  | _, _, .dct _ _ _, e => by simp [noD] at e
theorem RpA.dp {K : PySem.W.Frag} {Z : Zs} {H : Hp} : ∀ {vs : List V} {ds : List D}, RpA Z H vs ds → noDs ds = true → DpAll K H vs ds
  | _, _, .nil, _ => .nil
  | _, _, .cons h r, e => by
    simp only [noDs, Bool.and_eq_true] at e
    exact .cons (Rp.dp h e.1) (RpA.dp r e.2)
end
theorem Rt.dp {K : PySem.W.Frag} {Z : Zs} {H : Hp} {v : V} {d : D} (h : Rt Z H v d) (e : noD d = true) : Dp K H v d := by
  cases d with
  | none => cases h; exact .non
  | bool b => cases h; exact .bl b
  | int i => cases h; exact .int i
  | str x => cases h; exact .str x
  | list ds => obtain ⟨a, xs, rfl, q, r⟩ := h; exact .lst (SqL.of q) (r.dp (by simpa [noD] using e))
  | tuple ds => obtain ⟨a, xs, rfl, q, r, _⟩ := h; exact .tup q.sq (r.dp (by simpa [noD] using e))
  | dict ps => simp [noD] at e

inductive SV where
  | d (x : D) | m (k : Nat) | w (v : V) | q (lo hi : Int)
  /-- a tuple just made, of data and of objects that may still change -/
  | t (xs : List (D ⊕ Nat))
inductive MO where
  | l (ds : List D) | k (ps : List (Key × D))
  /-- a list of references to objects that may change, a dict of such -/
  | r (ks : List Nat) | g (ps : List (Key × Nat))
structure S where
  σ : List (Option SV)
  o : List MO
def zz (Z : Zs) (M : List Addr) : Zs := fun a => Z a ∨ a ∈ M
inductive RvB (Z : Zs) (M : List Addr) (H : Hp) : List V → List (D ⊕ Nat) → Prop
  | nil : RvB Z M H [] []
  | d {v : V} {x : D} {vs : List V} {xs : List (D ⊕ Nat)} : Rp (zz Z M) H v x → RvB Z M H vs xs → RvB Z M H (v :: vs) (.inl x :: xs)
  | m {a : Addr} {k : Nat} {vs : List V} {xs : List (D ⊕ Nat)} : M[k]? = some a → RvB Z M H vs xs → RvB Z M H (.ref a :: vs) (.inr k :: xs)
def Rv (Z : Zs) (M : List Addr) (H : Hp) (v : V) : SV → Prop
  | .d x => Rp (zz Z M) H v x
  | .m k => ∃ a, M[k]? = some a ∧ v = .ref a
  | .w u => v = u
  | .q lo hi => ∃ a, v = .ref a ∧ ¬ zz Z M a ∧ H a = some (.rng lo hi)
  | .t xs => ∃ a vs, v = .ref a ∧ ¬ zz Z M a ∧ TupAt H a vs false ∧ RvB Z M H vs xs
def kvD (ps : List (Key × D)) : List (D × D) := ps.map fun p => (kD p.1, p.2)
inductive RnA (M : List Addr) : List V → List Nat → Prop
  | nil : RnA M [] []
  | cons {a : Addr} {k : Nat} {vs : List V} {ks : List Nat} : M[k]? = some a → RnA M vs ks → RnA M (.ref a :: vs) (k :: ks)
inductive RnK (M : List Addr) : List (Key × V) → List (Key × Nat) → Prop
  | nil : RnK M [] []
  | cons {a : Addr} {k : Nat} {x : Key} {vs : List (Key × V)} {ks : List (Key × Nat)} : M[k]? = some a → RnK M vs ks → RnK M ((x, .ref a) :: vs) ((x, k) :: ks)
theorem get_pre {α : Type} {M e : List α} {k : Nat} {a : α} (h : M[k]? = some a) : (M ++ e)[k]? = some a := by
  rw [List.getElem?_append_left (List.getElem?_eq_some_iff.mp h).1]; exact h
theorem RnA.pre {M M' e : List Addr} (he : M' = M ++ e) : ∀ {vs : List V} {ks : List Nat}, RnA M vs ks → RnA M' vs ks
  | _, _, .nil => .nil
  | _, _, .cons h r => .cons (he ▸ get_pre h) (RnA.pre he r)
theorem RnK.pre {M M' e : List Addr} (he : M' = M ++ e) : ∀ {vs : List (Key × V)} {ks : List (Key × Nat)}, RnK M vs ks → RnK M' vs ks
  | _, _, .nil => .nil
  | _, _, .cons h r => .cons (he ▸ get_pre h) (RnK.pre he r)
def Ro (Z : Zs) (M : List Addr) (H : Hp) (a : Addr) : MO → Prop
  | .l ds => ∃ xs, H a = some (.lst xs) ∧ RpA (zz Z M) H xs ds
  | .k ps => ∃ kvs, H a = some (.dK kvs) ∧ RpK (zz Z M) H kvs (kvD ps)
  | .r ks => ∃ xs, H a = some (.lst xs) ∧ RnA M xs ks
  | .g ps => ∃ kvs, H a = some (.dK kvs) ∧ RnK M kvs ps
structure Rob (Z : Zs) (M : List Addr) (o : List MO) (H : Hp) : Prop where
  nd : M.Nodup
  zs : ∀ a, Z a → Has H a
  nz : ∀ a ∈ M, ¬ Z a
  len : o.length = M.length
  ob : ∀ (k : Nat) (a : Addr) (x : MO), M[k]? = some a → o[k]? = some x → Ro Z M H a x
  tb : LamX.Tabs Tbls.T H
structure Rel (Z : Zs) (M : List Addr) (s : S) (σ : L2.St) (H : Hp) : Prop where
  r : Rob Z M s.o H
  sl : ∀ (i : Nat) (sv : SV), s.σ[i]? = some (some sv) → ∃ v, σ[i]? = some (some v) ∧ Rv Z M H v sv
  sn : s.σ.length = σ.length
structure Ext (M : List Addr) (H : Hp) (M' : List Addr) (H' : Hp) : Prop where
  pre : ∃ e, M' = M ++ e
  out : ∀ a, a ∉ M → Has H a → a ∉ M'
  keep : ∀ a o, a ∉ M → H a = some o → nt o → H' a = some o
  dom : ∀ a, Has H a → Has H' a
  tab : LamX.Tabs Tbls.T H → LamX.Tabs Tbls.T H'
section
variable {Z : Zs} {M M' M1 M2 : List Addr} {H H' H1 H2 : Hp} {σ σ' : L2.St} {s : S}
theorem Ext.refl (M : List Addr) (H : Hp) : Ext M H M H := ⟨⟨[], by simp⟩, fun _ h _ => h, fun _ _ _ b _ => b, fun _ h => h, fun t => t⟩
theorem Ext.trans (a : Ext M H M1 H1) (b : Ext M1 H1 M2 H2) : Ext M H M2 H2 := by
  obtain ⟨⟨e, he⟩, u, k, d, t⟩ := a
  obtain ⟨⟨e2, he2⟩, u2, k2, d2, t2⟩ := b
  exact ⟨⟨e ++ e2, by rw [he2, he, List.append_assoc]⟩, fun x h1 h2 => u2 x (u x h1 h2) (d x h2), fun x o h1 h2 n => k2 x o (u x h1 ⟨o, h2, n⟩) (k x o h1 h2 n) n, fun x h => d2 x (d x h), fun h => t2 (t h)⟩
theorem Ext.new (n : New H H') : Ext M H M H' := ⟨⟨[], by simp⟩, fun a h _ => h, fun a o _ e t => n.at_ a o e t, n.dom, n.tab⟩
theorem Ext.mono_d (e : Ext M H M' H') {v : V} {d : D} (h : Rp (zz Z M) H v d) : Rp (zz Z M') H' v d := h.mono fun a o z q t => by
  have h1 : ¬ Z a := fun y => z (.inl y)
  have h2 : a ∉ M := fun y => z (.inr y)
  exact ⟨fun y => y.elim h1 (e.out a h2 ⟨o, q, t⟩), e.keep a o h2 q t⟩
theorem Ext.mono_a (e : Ext M H M' H') {v : List V} {d : List D} (h : RpA (zz Z M) H v d) : RpA (zz Z M') H' v d := h.mono fun a o z q t => by
  have h1 : ¬ Z a := fun y => z (.inl y)
  have h2 : a ∉ M := fun y => z (.inr y)
  exact ⟨fun y => y.elim h1 (e.out a h2 ⟨o, q, t⟩), e.keep a o h2 q t⟩
theorem Ext.mono_k (e : Ext M H M' H') {v : List (Key × V)} {d : List (D × D)} (h : RpK (zz Z M) H v d) : RpK (zz Z M') H' v d := h.mono fun a o z q t => by
  have h1 : ¬ Z a := fun y => z (.inl y)
  have h2 : a ∉ M := fun y => z (.inr y)
  exact ⟨fun y => y.elim h1 (e.out a h2 ⟨o, q, t⟩), e.keep a o h2 q t⟩
theorem Ext.rvB (e : Ext M H M' H') : ∀ {vs : List V} {xs : List (D ⊕ Nat)}, RvB Z M H vs xs → RvB Z M' H' vs xs
  | _, _, .nil => .nil
  | _, _, .d h t => .d (e.mono_d h) (e.rvB t)
  | _, _, .m q t => .m (by
    obtain ⟨x, he⟩ := e.pre
    rw [he, List.getElem?_append_left (List.getElem?_eq_some_iff.mp q).1]
    exact q) (e.rvB t)
theorem Ext.rv (e : Ext M H M' H') {v : V} {sv : SV} (h : Rv Z M H v sv) : Rv Z M' H' v sv := by
  cases sv with
  | d x => exact e.mono_d h
  | m k =>
    obtain ⟨a, q, r⟩ := h
    obtain ⟨x, he⟩ := e.pre
    refine ⟨a, ?_, r⟩
    rw [he, List.getElem?_append_left (List.getElem?_eq_some_iff.mp q).1]
    exact q
  | w u => exact h
  | q lo hi =>
    obtain ⟨a, rfl, z, g⟩ := h
    have h1 : ¬ Z a := fun y => z (.inl y)
    have h2 : a ∉ M := fun y => z (.inr y)
    exact ⟨a, rfl, fun y => y.elim h1 (e.out a h2 ⟨_, g, nt_rng⟩), e.keep a _ h2 g nt_rng⟩
  | t xs =>
    obtain ⟨a, vs, rfl, z, g, r⟩ := h
    have h1 : ¬ Z a := fun y => z (.inl y)
    have h2 : a ∉ M := fun y => z (.inr y)
    exact ⟨a, vs, rfl, fun y => y.elim h1 (e.out a h2 g.ex), g.mono fun o q n => e.keep a o h2 q n, e.rvB r⟩
theorem Rob.zzh (r : Rob Z M s.o H) : ∀ a, zz Z M a → Has H a := by
  intro a h
  rcases h with h | h
  · exact r.zs a h
  · obtain ⟨k, hk, e⟩ := List.getElem_of_mem h
    have h1 : M[k]? = some a := by rw [List.getElem?_eq_getElem hk, e]
    have hk2 : k < s.o.length := by rw [r.len]; exact hk
    have q := r.ob k a _ h1 (List.getElem?_eq_getElem hk2)
    cases e2 : s.o[k] with
    | l ds => rw [e2] at q; obtain ⟨xs, q, _⟩ := q; exact ⟨_, q, nt_lst⟩
    | k ps => rw [e2] at q; obtain ⟨xs, q, _⟩ := q; exact ⟨_, q, nt_dK⟩
    | r ds => rw [e2] at q; obtain ⟨xs, q, _⟩ := q; exact ⟨_, q, nt_lst⟩
    | g ps => rw [e2] at q; obtain ⟨xs, q, _⟩ := q; exact ⟨_, q, nt_dK⟩
theorem Rob.zzd (r : Rob Z M s.o H) : ∀ a, zz Z M a → H a ≠ none := fun a h => (r.zzh a h).ne
theorem Rob.new {o : List MO} (r : Rob Z M o H) (n : New H H') : Rob Z M o H' := by
  refine ⟨r.nd, fun a h => (Ext.new (M := M) n).dom a (r.zs a h), r.nz, r.len, fun k a x h1 h2 => ?_, n.tab r.tb⟩
  have q := r.ob k a x h1 h2
  cases x with
  | l ds => obtain ⟨xs, q1, q2⟩ := q; exact ⟨xs, n.at_ _ _ q1 nt_lst, q2.new n⟩
  | k ps => obtain ⟨xs, q1, q2⟩ := q; exact ⟨xs, n.at_ _ _ q1 nt_dK, q2.new n⟩
  | r ds => obtain ⟨xs, q1, q2⟩ := q; exact ⟨xs, n.at_ _ _ q1 nt_lst, q2⟩
  | g ps => obtain ⟨xs, q1, q2⟩ := q; exact ⟨xs, n.at_ _ _ q1 nt_dK, q2⟩
theorem Rel.new (r : Rel Z M s σ H) (n : New H H') : Rel Z M s σ H' :=
  ⟨r.r.new n, fun i sv h => by
    obtain ⟨v, q1, q2⟩ := r.sl i sv h
    exact ⟨v, q1, (Ext.new n).rv q2⟩, r.sn⟩
theorem Rel.put (r : Rel Z M s σ H) {i : Nat} {v : V} {sv : SV} (h : Rv Z M H v sv) : Rel Z M { s with σ := sS (some sv) s.σ i } (σ.set i (some v)) H := by
  rw [sS_eq]
  refine ⟨r.r, fun j w e => ?_, by simp [r.sn]⟩
  by_cases hj : i = j
  · subst hj
    by_cases hl : i < s.σ.length
    · rw [List.getElem?_set_self hl] at e
      cases e
      exact ⟨v, by rw [List.getElem?_set_self (by rw [← r.sn]; exact hl)], h⟩
    · rw [List.getElem?_eq_none (by simpa using hl)] at e; cases e
  · rw [List.getElem?_set_ne hj] at e
    obtain ⟨u, q1, q2⟩ := r.sl j w e
    exact ⟨u, by rw [List.getElem?_set_ne hj]; exact q1, q2⟩
theorem Rel.slots (r : Rel Z M s σ H) {τ : List (Option SV)} {σ' : L2.St} (hl : τ.length = σ'.length) (h : ∀ (i : Nat) sv, τ[i]? = some (some sv) → ∃ v, σ'[i]? = some (some v) ∧ Rv Z M H v sv) : Rel Z M { s with σ := τ } σ' H := ⟨r.r, h, hl⟩
end
def vw (o : List MO) : SV → Option D
  | .d x => some x
  | .m k => match o[k]? with
    | some (.l ds) => some (.list ds)
    | some (.k ps) => some (.dict (kvD ps))
    | _ => none
  | .w _ => none
  | .q _ _ => none
  | .t _ => none
theorem vw_ok {Z : Zs} {M : List Addr} {o : List MO} {H : Hp} {v : V} {sv : SV} {d : D} (r : Rob Z M o H) (h : Rv Z M H v sv) (e : vw o sv = some d) : Rt (zz Z M) H v d := by
  cases sv with
  | d x => cases e; exact Rp.rt h
  | m k =>
    obtain ⟨a, q, rfl⟩ := h
    simp only [vw] at e
    cases ho : o[k]? with
    | none => rw [ho] at e; cases e
    | some x =>
      rw [ho] at e
      have p := r.ob k a x q ho
      cases x with
      | l ds => cases e; obtain ⟨xs, p1, p2⟩ := p; exact ⟨a, xs, rfl, p1, p2⟩
      | k ps => cases e; obtain ⟨xs, p1, p2⟩ := p; exact ⟨a, xs, rfl, .inl p1, p2⟩
      | r ks => cases e
      | g ps => cases e
  | w u => cases e
  | q _ _ => cases e
  | t _ => cases e
end
end AP

namespace AP
noncomputable section
open PySem PySem.Spec PyProof.Rows L2
variable [Tbls]
structure Ex2 (M : List Addr) (H : Hp) (M' : List Addr) (H' : Hp) : Prop extends Ext M H M' H' where
  same : M' = M
theorem Ex2.refl (M : List Addr) (H : Hp) : Ex2 M H M H := ⟨Ext.refl M H, rfl⟩
theorem Ex2.trans {M M1 M2 : List Addr} {H H1 H2 : Hp} (a : Ex2 M H M1 H1) (b : Ex2 M1 H1 M2 H2) : Ex2 M H M2 H2 := ⟨a.toExt.trans b.toExt, b.same.trans a.same⟩
theorem Ex2.new {M : List Addr} {H H' : Hp} (n : New H H') : Ex2 M H M H' := ⟨Ext.new n, rfl⟩
abbrev EM := S → Option (SV × List MO)
abbrev TM := S → Option (Bool × List MO)
abbrev AM := S → Option (List SV × List MO)
def S.on (s : S) (o : List MO) : S := { s with o := o }
def Sn (t : TE) (m : EM) : Prop := ∀ Z M s σ H, Rel Z M s σ H → ∀ r o', m s = some (r, o') → ∀ Q : VK, (∀ M' v H', Ex2 M H M' H' → Rel Z M' (s.on o') σ H' → Rv Z M' H' v r → Q v H') → t σ H Q
def SnT (t : TT) (m : TM) : Prop := ∀ Z M s σ H, Rel Z M s σ H → ∀ r o', m s = some (r, o') → ∀ Q : Bool → Hp → Prop, (∀ M' H', Ex2 M H M' H' → Rel Z M' (s.on o') σ H' → Q r H') → t σ H Q
inductive RvA (Z : Zs) (M : List Addr) (H : Hp) : List V → List SV → Prop
  | nil : RvA Z M H [] []
  | cons {v : V} {vs : List V} {x : SV} {xs : List SV} : Rv Z M H v x → RvA Z M H vs xs → RvA Z M H (v :: vs) (x :: xs)
def SnA (t : TA) (m : AM) : Prop := ∀ Z M s σ H, Rel Z M s σ H → ∀ r o', m s = some (r, o') → ∀ Q : List V → Hp → Prop, (∀ M' vs H', Ex2 M H M' H' → Rel Z M' (s.on o') σ H' → RvA Z M' H' vs r → Q vs H') → t σ H Q
theorem Rel.ext_on {Z : Zs} {M M' : List Addr} {s : S} {σ : L2.St} {H H' : Hp} {o : List MO} (h : Rel Z M s σ H) (e : Ext M H M' H') (r : Rob Z M' o H') : Rel Z M' (s.on o) σ H' :=
  ⟨r, fun i sv q => by
    obtain ⟨v, q1, q2⟩ := h.sl i sv q
    exact ⟨v, q1, e.rv q2⟩, h.sn⟩
theorem RvA.ext {Z : Zs} {M M' : List Addr} {H H' : Hp} (e : Ext M H M' H') : ∀ {vs : List V} {xs : List SV}, RvA Z M H vs xs → RvA Z M' H' vs xs
  | _, _, .nil => .nil
  | _, _, .cons h r => .cons (e.rv h) (RvA.ext e r)
def R2D (r : R2) (g : D → D → Option D) : Prop := ∀ (Z : Zs) (H : Hp), (∀ a, Z a → H a ≠ none) → ∀ v1 v2 d1 d2 d, Rt Z H v1 d1 → Rt Z H v2 d2 → g d1 d2 = some d → ∀ Q : VK, (∀ v H', New H H' → Rp Z H' v d → Q v H') → r v1 v2 H Q
def R1D (r : V → Hp → VK → Prop) (g : D → Option D) : Prop := ∀ (Z : Zs) (H : Hp), (∀ a, Z a → H a ≠ none) → ∀ v1 d1 d, Rt Z H v1 d1 → g d1 = some d → ∀ Q : VK, (∀ v H', New H H' → Rp Z H' v d → Q v H') → r v1 H Q
inductive RtA (Z : Zs) (H : Hp) : List V → List D → Prop
  | nil : RtA Z H [] []
  | cons {v : V} {vs : List V} {d : D} {ds : List D} : Rt Z H v d → RtA Z H vs ds → RtA Z H (v :: vs) (d :: ds)
def RCD (r : List V → Hp → VK → Prop) (g : List D → Option D) : Prop := ∀ (Z : Zs) (H : Hp), (∀ a, Z a → H a ≠ none) → ∀ vs ds d, RtA Z H vs ds → g ds = some d → ∀ Q : VK, (∀ v H', New H H' → Rp Z H' v d → Q v H') → r vs H Q
def oel (a b : Option D) : Option D := match a with
  | some d => some d
  | none => b
theorem R2D.or {r r' : R2} {g g' : D → D → Option D} (h : R2D r g) (h' : R2D r' g') : R2D (fun x y H Q => r x y H Q ∨ r' x y H Q) (fun a b => oel (g a b) (g' a b)) := by
  intro Z H hz v1 v2 d1 d2 d r1 r2 e Q q
  cases eg : g d1 d2 with
  | some d' => simp only [oel, eg] at e; exact .inl (h Z H hz v1 v2 d1 d2 d r1 r2 (by rw [eg]; exact e) Q q)
  | none => simp only [oel, eg] at e; exact .inr (h' Z H hz v1 v2 d1 d2 d r1 r2 e Q q)
theorem RCD.or {r r' : List V → Hp → VK → Prop} {g g' : List D → Option D} (h : RCD r g) (h' : RCD r' g') : RCD (fun x H Q => r x H Q ∨ r' x H Q) (fun a => oel (g a) (g' a)) := by
  intro Z H hz v1 d1 d r1 e Q q
  cases eg : g d1 with
  | some d' => simp only [oel, eg] at e; exact .inl (h Z H hz v1 d1 d r1 (by rw [eg]; exact e) Q q)
  | none => simp only [oel, eg] at e; exact .inr (h' Z H hz v1 d1 d r1 e Q q)
def vws (o : List MO) : List SV → Option (List D)
  | [] => some []
  | x :: xs => match vw o x with
    | some d => (match vws o xs with
      | some ds => some (d :: ds)
      | none => none)
    | none => none
theorem vws_ok {Z : Zs} {M : List Addr} {o : List MO} {H : Hp} (r : Rob Z M o H) : ∀ {vs : List V} {xs : List SV} {ds : List D}, RvA Z M H vs xs → vws o xs = some ds → RtA (zz Z M) H vs ds
  | _, _, _, .nil, e => by simp only [vws] at e; cases e; exact .nil
  | _, _, _, .cons (x := x) (xs := xs) h t, e => by
    simp only [vws] at e
    cases e1 : vw o x with
    | none => rw [e1] at e; cases e
    | some d =>
      cases e2 : vws o xs with
      | none => rw [e1, e2] at e; cases e
      | some ds => rw [e1, e2] at e; cases e; exact .cons (vw_ok r h e1) (vws_ok r t e2)
def mVar (i : Nat) : EM := fun s => match gS s.σ i with
  | some (some v) => some (v, s.o)
  | _ => none
theorem sn_var {i : Nat} : Sn (tVar i) (mVar i) := by
  intro Z M s σ H h r o' e Q q
  unfold mVar at e
  rw [gS_eq] at e
  split at e
  · rename_i v hv
    cases e
    obtain ⟨u, h1, h2⟩ := h.sl i _ hv
    exact ⟨u, h1, q M u H (Ex2.refl M H) h h2⟩
  · cases e
def mC (d : D) : EM := fun s => some (.d d, s.o)
theorem sn_int {i : Int} : Sn (tC (.int i)) (mC (.int i)) := by
  intro Z M s σ H h r o' e Q q
  cases e
  exact q M _ H (Ex2.refl M H) h (.int i)
theorem sn_str {i : Str} : Sn (tC (.str i)) (mC (.str i)) := by
  intro Z M s σ H h r o' e Q q
  cases e
  exact q M _ H (Ex2.refl M H) h (.str i)
theorem sn_bl {i : Bool} : Sn (tC (.bl i)) (mC (.bool i)) := by
  intro Z M s σ H h r o' e Q q
  cases e
  exact q M _ H (Ex2.refl M H) h (.bl i)
theorem sn_non : Sn (tC .non) (mC .none) := by
  intro Z M s σ H h r o' e Q q
  cases e
  exact q M _ H (Ex2.refl M H) h .non
def mOp (g : D → D → Option D) (a b : EM) : EM := fun s => match a s with
  | none => none
  | some (x, o1) => match b (s.on o1) with
    | none => none
    | some (y, o2) => match vw o2 x, vw o2 y with
      | some d1, some d2 => (match g d1 d2 with
        | some d => some (.d d, o2)
        | none => none)
      | _, _ => none
theorem sn_op {r : R2} {g : D → D → Option D} {ta tb : TE} {a b : EM} (hr : R2D r g) (ha : Sn ta a) (hb : Sn tb b) : Sn (tOp r ta tb) (mOp g a b) := by
  intro Z M s σ H h w o' e Q q
  unfold mOp at e
  cases ea : a s with
  | none => rw [ea] at e; cases e
  | some p =>
    obtain ⟨x, o1⟩ := p
    rw [ea] at e
    refine ha Z M s σ H h x o1 ea _ fun M1 v1 H1 e1 h1 r1 => ?_
    simp only at e
    cases eb : b (s.on o1) with
    | none => rw [eb] at e; cases e
    | some p2 =>
      obtain ⟨y, o2⟩ := p2
      rw [eb] at e
      refine hb Z M1 (s.on o1) σ H1 h1 y o2 eb _ fun M2 v2 H2 e2 h2 r2 => ?_
      simp only at e
      split at e
      · rename_i d1 d2 w1 w2
        split at e
        · rename_i d hd
          cases e
          refine hr (zz Z M2) H2 h2.r.zzd v1 v2 d1 d2 d (vw_ok h2.r (e2.rv r1) w1) (vw_ok h2.r r2 w2) hd Q fun v H' n p => ?_
          exact q M2 v H' ((e1.trans e2).trans (Ex2.new n)) (h2.new n) p
        · cases e
      · cases e
def mUn (g : D → Option D) (a : EM) : EM := fun s => match a s with
  | none => none
  | some (x, o1) => match vw o1 x with
    | none => none
    | some d1 => (match g d1 with
      | some d => some (.d d, o1)
      | none => none)
theorem sn_un {r : V → Hp → VK → Prop} {g : D → Option D} {ta : TE} {a : EM} (hr : R1D r g) (ha : Sn ta a) : Sn (tUn r ta) (mUn g a) := by
  intro Z M s σ H h w o' e Q q
  unfold mUn at e
  split at e
  · cases e
  · rename_i x o1 ea
    refine ha Z M s σ H h x o1 ea _ fun M1 v1 H1 e1 h1 r1 => ?_
    split at e
    · cases e
    · rename_i d1 w1
      split at e
      · rename_i d hd
        cases e
        refine hr (zz Z M1) H1 h1.r.zzd v1 d1 d (vw_ok h1.r r1 w1) hd Q fun v H' n p => ?_
        exact q M1 v H' (e1.trans (Ex2.new n)) (h1.new n) p
      · cases e
def mChain (g g' : D → D → Option D) (a b c : EM) : EM := fun s => match a s with
  | none => none
  | some (x, o1) => match b (s.on o1) with
    | none => none
    | some (y, o2) => match vw o2 x, vw o2 y with
      | some d1, some d2 => (match g d1 d2 with
        | some (.bool false) => some (.d (.bool false), o2)
        | some (.bool true) => (match c (s.on o2) with
          | none => none
          | some (z, o3) => match vw o3 y, vw o3 z with
            | some d3, some d4 => (match g' d3 d4 with
              | some d => some (.d d, o3)
              | none => none)
            | _, _ => none)
        | _ => none)
      | _, _ => none
theorem sn_chain {r r' : R2} {g g' : D → D → Option D} {ta tb tc : TE} {a b c : EM} (hr : R2D r g) (hr' : R2D r' g') (ha : Sn ta a) (hb : Sn tb b) (hc : Sn tc c) : Sn (tChain r r' ta tb tc) (mChain g g' a b c) := by
  intro Z M s σ H h w o' e Q q
  unfold mChain at e
  split at e
  · cases e
  · rename_i x o1 ea
    refine ha Z M s σ H h x o1 ea _ fun M1 v1 H1 e1 h1 r1 => ?_
    split at e
    · cases e
    · rename_i y o2 eb
      refine hb Z M1 (s.on o1) σ H1 h1 y o2 eb _ fun M2 v2 H2 e2 h2 r2 => ?_
      split at e
      · rename_i d1 d2 w1 w2
        split at e
        · rename_i hd
          cases e
          refine hr (zz Z M2) H2 h2.r.zzd v1 v2 d1 d2 _ (vw_ok h2.r (e2.rv r1) w1) (vw_ok h2.r r2 w2) hd _ fun v H' n p => ?_
          cases p
          exact ⟨false, rfl, by rw [if_neg (by decide)]; exact q M2 _ H' ((e1.trans e2).trans (Ex2.new n)) (h2.new n) (.bl false)⟩
        · rename_i hd
          refine hr (zz Z M2) H2 h2.r.zzd v1 v2 d1 d2 _ (vw_ok h2.r (e2.rv r1) w1) (vw_ok h2.r r2 w2) hd _ fun v H' n p => ?_
          cases p
          refine ⟨true, rfl, ?_⟩
          rw [if_pos rfl]
          split at e
          · cases e
          · rename_i z o3 ec
            refine hc Z M2 (s.on o2) σ H' (h2.new n) z o3 ec _ fun M3 v3 H3 e3 h3 r3 => ?_
            split at e
            · rename_i d3 d4 w3 w4
              split at e
              · rename_i d hd'
                cases e
                refine hr' (zz Z M3) H3 h3.r.zzd v2 v3 d3 d4 d (vw_ok h3.r (e3.rv ((Ex2.new n).rv r2)) w3) (vw_ok h3.r r3 w4) hd' Q fun v H'' n' p => ?_
                exact q M3 v H'' ((((e1.trans e2).trans (Ex2.new n)).trans e3).trans (Ex2.new n')) (h3.new n') p
              · cases e
            · cases e
        · cases e
      · cases e
def truD : D → Option Bool
  | .none => some false
  | .bool b => some b
  | .int i => some (i != 0)
  | .str x => if x.length ≤ 100000 then some (x.length != 0) else none
  | .list ds => some (!ds.isEmpty)
  | .tuple ds => some (!ds.isEmpty)
  | .dict ps => none
theorem small_line {n : Nat} (h : n ≤ 100000) : n ≤ sizeLine := Nat.le_trans h (by rw [sizeLine_eq]; decide)
theorem empA {Z : Zs} {H : Hp} {xs : List V} {ds : List D} (r : RpA Z H xs ds) : (!xs.isEmpty) = !ds.isEmpty := by cases r <;> rfl
theorem tru_of {K : PySem.W.Frag} {Z : Zs} {H : Hp} {v : V} {d : D} {k : Bool} (h : Rt Z H v d) (e : truD d = some k) : TruV K v H k := by
  cases d with
  | none => cases h; cases e; rfl
  | bool b => cases h; cases e; rfl
  | int i => cases h; cases e; rfl
  | str x =>
    cases h
    simp only [truD] at e
    split at e
    · rename_i hl
      cases e
      refine ⟨small_line hl, ?_⟩
      cases hx : x.length with
      | zero => rfl
      | succ n =>
        have h2 : (((n + 1 : Nat) : Int) != 0) = true := by
          rw [bne_iff_ne]; omega
        rw [h2]; rfl
    · cases e
  | list ds => obtain ⟨a, xs, rfl, q, r⟩ := h; cases e; exact .inl ⟨xs, SqL.of q, (empA r).symm⟩
  | tuple ds => obtain ⟨a, xs, rfl, q, r, _⟩ := h; cases e; exact .inr (.inl ⟨xs, q.sq, (empA r).symm⟩)
  | dict ps => cases e
def tTr (K : PySem.W.Frag) (ta : TE) : TT := fun σ H Q => ta σ H fun x H' => ∃ k, TruV K x H' k ∧ Q k H'
theorem pt_tr {X : Cx} {a : Expr} {ta : TE} (ha : PE X a ta) (he : ∀ whole, isTrue a X.env whole = (do let v ← whole; standAt a.pos; holding [v] (truthy v)) := by intro _; rfl) : PT X a (tTr X.K ta) := pt_truth ha he
def mTr (a : EM) : TM := fun s => match a s with
  | none => none
  | some (x, o1) => match vw o1 x with
    | none => none
    | some d => (match truD d with
      | none => none
      | some k => some (k, o1))
theorem sn_tr {K : PySem.W.Frag} {ta : TE} {a : EM} (ha : Sn ta a) : SnT (tTr K ta) (mTr a) := by
  intro Z M s σ H h w o' e Q q
  unfold mTr at e
  split at e
  · cases e
  · rename_i x o1 ea
    refine ha Z M s σ H h x o1 ea _ fun M1 v1 H1 e1 h1 r1 => ?_
    split at e
    · cases e
    · rename_i d hd
      split at e
      · cases e
      · rename_i k hk
        cases e
        exact ⟨_, tru_of (vw_ok h1.r r1 hd) hk, q M1 H1 e1 h1⟩
def mTest (a : EM) : TM := fun s => match a s with
  | some (.d (.bool k), o1) => some (k, o1)
  | _ => none
theorem sn_test {ta : TE} {a : EM} (ha : Sn ta a) : SnT (tTest ta) (mTest a) := by
  intro Z M s σ H h w o' e Q q
  unfold mTest at e
  split at e
  · rename_i k o1 ea
    cases e
    refine ha Z M s σ H h _ _ ea _ fun M1 v1 H1 e1 h1 r1 => ?_
    have r2 : Rp (zz Z M1) H1 v1 (.bool w) := r1
    cases r2
    exact ⟨w, rfl, q M1 H1 e1 h1⟩
  · cases e
def mAnd (a b : TM) : TM := fun s => match a s with
  | none => none
  | some (false, o1) => some (false, o1)
  | some (true, o1) => b (s.on o1)
def mOr (a b : TM) : TM := fun s => match a s with
  | none => none
  | some (true, o1) => some (true, o1)
  | some (false, o1) => b (s.on o1)
def mNot (a : TM) : TM := fun s => match a s with
  | none => none
  | some (k, o1) => some (!k, o1)
theorem sn_and {ta tb : TT} {a b : TM} (ha : SnT ta a) (hb : SnT tb b) : SnT (tAnd ta tb) (mAnd a b) := by
  intro Z M s σ H h w o' e Q q
  unfold mAnd at e
  split at e
  · cases e
  · rename_i o1 ea
    cases e
    refine ha Z M s σ H h _ _ ea _ fun M1 H1 e1 h1 => ?_
    rw [if_neg (by decide)]
    exact q M1 H1 e1 h1
  · rename_i o1 ea
    refine ha Z M s σ H h _ _ ea _ fun M1 H1 e1 h1 => ?_
    rw [if_pos rfl]
    exact hb Z M1 (s.on o1) σ H1 h1 w o' e Q fun M2 H2 e2 h2 => q M2 H2 (e1.trans e2) h2
theorem sn_or {ta tb : TT} {a b : TM} (ha : SnT ta a) (hb : SnT tb b) : SnT (tOr ta tb) (mOr a b) := by
  intro Z M s σ H h w o' e Q q
  unfold mOr at e
  split at e
  · cases e
  · rename_i o1 ea
    cases e
    refine ha Z M s σ H h _ _ ea _ fun M1 H1 e1 h1 => ?_
    rw [if_pos rfl]
    exact q M1 H1 e1 h1
  · rename_i o1 ea
    refine ha Z M s σ H h _ _ ea _ fun M1 H1 e1 h1 => ?_
    rw [if_neg (by decide)]
    exact hb Z M1 (s.on o1) σ H1 h1 w o' e Q fun M2 H2 e2 h2 => q M2 H2 (e1.trans e2) h2
theorem sn_not {ta : TT} {a : TM} (ha : SnT ta a) : SnT (tNot ta) (mNot a) := by
  intro Z M s σ H h w o' e Q q
  unfold mNot at e
  split at e
  · cases e
  · rename_i k o1 ea
    cases e
    exact ha Z M s σ H h _ _ ea _ fun M1 H1 e1 h1 => q M1 H1 e1 h1
def mAndV (a b : EM) : EM := fun s => match a s with
  | none => none
  | some (x, o1) => match vw o1 x with
    | none => none
    | some d => (match truD d with
      | none => none
      | some true => b (s.on o1)
      | some false => some (x, o1))
def mNotV (a : EM) : EM := fun s => match a s with
  | none => none
  | some (x, o1) => match vw o1 x with
    | none => none
    | some d => (match truD d with
      | none => none
      | some k => some (.d (.bool (!k)), o1))
theorem sn_andV {K : PySem.W.Frag} {ta tb : TE} {a b : EM} (ha : Sn ta a) (hb : Sn tb b) : Sn (tAndT K ta tb) (mAndV a b) := by
  intro Z M s σ H h w o' e Q q
  unfold mAndV at e
  split at e
  · cases e
  · rename_i x o1 ea
    refine ha Z M s σ H h x o1 ea _ fun M1 v1 H1 e1 h1 r1 => ?_
    split at e
    · cases e
    · rename_i d hd
      split at e
      · cases e
      · rename_i hk
        refine ⟨_, tru_of (vw_ok h1.r r1 hd) hk, ?_⟩
        rw [if_pos rfl]
        exact hb Z M1 (s.on o1) σ H1 h1 w o' e Q fun M2 v2 H2 e2 h2 r2 => q M2 v2 H2 (e1.trans e2) h2 r2
      · rename_i hk
        cases e
        refine ⟨_, tru_of (vw_ok h1.r r1 hd) hk, ?_⟩
        rw [if_neg (by decide)]
        exact q M1 v1 H1 e1 h1 r1
theorem sn_notV {K : PySem.W.Frag} {ta : TE} {a : EM} (ha : Sn ta a) : Sn (tNotT K ta) (mNotV a) := by
  intro Z M s σ H h w o' e Q q
  unfold mNotV at e
  split at e
  · cases e
  · rename_i x o1 ea
    refine ha Z M s σ H h x o1 ea _ fun M1 v1 H1 e1 h1 r1 => ?_
    split at e
    · cases e
    · rename_i d hd
      split at e
      · cases e
      · rename_i k hk
        cases e
        exact ⟨_, tru_of (vw_ok h1.r r1 hd) hk, q M1 _ H1 e1 h1 (.bl _)⟩
def mIf (c : TM) (a b : EM) : EM := fun s => match c s with
  | none => none
  | some (true, o1) => a (s.on o1)
  | some (false, o1) => b (s.on o1)
theorem sn_if {tc : TT} {ta tb : TE} {c : TM} {a b : EM} (hc : SnT tc c) (ha : Sn ta a) (hb : Sn tb b) : Sn (tIf tc ta tb) (mIf c a b) := by
  intro Z M s σ H h w o' e Q q
  unfold mIf at e
  split at e
  · cases e
  · rename_i o1 ec
    refine hc Z M s σ H h _ _ ec _ fun M1 H1 e1 h1 => ?_
    rw [if_pos rfl]
    exact ha Z M1 (s.on o1) σ H1 h1 w o' e Q fun M2 v2 H2 e2 h2 r2 => q M2 v2 H2 (e1.trans e2) h2 r2
  · rename_i o1 ec
    refine hc Z M s σ H h _ _ ec _ fun M1 H1 e1 h1 => ?_
    rw [if_neg (by decide)]
    exact hb Z M1 (s.on o1) σ H1 h1 w o' e Q fun M2 v2 H2 e2 h2 r2 => q M2 v2 H2 (e1.trans e2) h2 r2
def mNil : AM := fun s => some ([], s.o)
def mCons (a : EM) (r : AM) : AM := fun s => match a s with
  | none => none
  | some (x, o1) => match r (s.on o1) with
    | none => none
    | some (xs, o2) => some (x :: xs, o2)
theorem sn_nil : SnA tNil mNil := by
  intro Z M s σ H h w o' e Q q
  cases e
  exact q M [] H (Ex2.refl M H) h .nil
theorem sn_cons {ta : TE} {tr : TA} {a : EM} {r : AM} (ha : Sn ta a) (hr : SnA tr r) : SnA (tCons ta tr) (mCons a r) := by
  intro Z M s σ H h w o' e Q q
  unfold mCons at e
  split at e
  · cases e
  · rename_i x o1 ea
    refine ha Z M s σ H h x o1 ea _ fun M1 v1 H1 e1 h1 r1 => ?_
    split at e
    · cases e
    · rename_i xs o2 er
      cases e
      refine hr Z M1 (s.on o1) σ H1 h1 _ _ er _ fun M2 vs H2 e2 h2 r2 => ?_
      exact q M2 (v1 :: vs) H2 (e1.trans e2) h2 (.cons (e2.rv r1) r2)
def dats : List SV → Option (List D)
  | [] => some []
  | .d x :: xs => (match dats xs with
    | some ds => some (x :: ds)
    | none => none)
  | _ :: _ => none
theorem dats_ok {Z : Zs} {M : List Addr} {H : Hp} : ∀ {vs : List V} {xs : List SV} {ds : List D}, RvA Z M H vs xs → dats xs = some ds → RpA (zz Z M) H vs ds
  | _, _, _, .nil, e => by simp only [dats] at e; cases e; exact .nil
  | _, _, _, .cons (x := x) (xs := xs) h t, e => by
    cases x with
    | d x =>
      simp only [dats] at e
      cases e2 : dats xs with
      | none => rw [e2] at e; cases e
      | some ds => rw [e2] at e; cases e; exact .cons h (dats_ok t e2)
    | m k => simp [dats] at e
    | w u => simp [dats] at e
    | q _ _ => simp [dats] at e
    | t _ => simp [dats] at e
def mTup (a : AM) : EM := fun s => match a s with
  | none => none
  | some (xs, o1) => match dats xs with
    | none => none
    | some ds => if ds.length ≤ 100000 then some (.d (.tuple ds), o1) else none
def mLst (a : AM) : EM := fun s => match a s with
  | none => none
  | some (xs, o1) => match dats xs with
    | none => none
    | some ds => if ds.length ≤ 100000 then some (.d (.list ds), o1) else none
theorem fresh_nz {Z : Zs} {H : Hp} (hz : ∀ a, Z a → H a ≠ none) {p : Addr} (hp : H p = none) : ¬ Z p := fun z => hz p z hp
theorem sn_tup {ta : TA} {a : AM} (ha : SnA ta a) : Sn (tTupF ta) (mTup a) := by
  intro Z M s σ H h w o' e Q q
  unfold mTup at e
  split at e
  · cases e
  · rename_i xs o1 ea
    refine ha Z M s σ H h _ _ ea _ fun M1 vs H1 e1 h1 r1 => ?_
    split at e
    · cases e
    · rename_i ds hd
      split at e
      · rename_i hl
        cases e
        have r2 := dats_ok r1 hd
        refine ⟨small_line (by rw [r2.length]; exact hl), fun p ob hp ho => ?_⟩
        have n := New.upd (o := .frz ob (.tup vs)) hp
        exact q M1 _ _ (e1.trans (Ex2.new n)) (h1.new n) (.tup (fresh_nz h1.r.zzd hp) (TupAt.new ho) (r2.new n))
      · cases e
theorem sn_lst {ta : TA} {a : AM} (ha : SnA ta a) : Sn (tLst ta) (mLst a) := by
  intro Z M s σ H h w o' e Q q
  unfold mLst at e
  split at e
  · cases e
  · rename_i xs o1 ea
    refine ha Z M s σ H h _ _ ea _ fun M1 vs H1 e1 h1 r1 => ?_
    split at e
    · cases e
    · rename_i ds hd
      split at e
      · rename_i hl
        cases e
        have r2 := dats_ok r1 hd
        refine ⟨small_line (by rw [r2.length]; exact hl), fun p hp => ?_⟩
        have n := New.upd (o := .lst vs) hp
        exact q M1 _ _ (e1.trans (Ex2.new n)) (h1.new n) (.lst (fresh_nz h1.r.zzd hp) upd_same (r2.new n))
      · cases e
def mCB (g : List D → Option D) (a : AM) : EM := fun s => match a s with
  | none => none
  | some (xs, o1) => match vws o1 xs with
    | none => none
    | some ds => (match g ds with
      | some d => some (.d d, o1)
      | none => none)
theorem sn_cb {r : List V → Hp → VK → Prop} {g : List D → Option D} {ta : TA} {a : AM} (hr : RCD r g) (ha : SnA ta a) : Sn (tCB r ta) (mCB g a) := by
  intro Z M s σ H h w o' e Q q
  unfold mCB at e
  split at e
  · cases e
  · rename_i xs o1 ea
    refine ha Z M s σ H h _ _ ea _ fun M1 vs H1 e1 h1 r1 => ?_
    split at e
    · cases e
    · rename_i ds hd
      split at e
      · rename_i d hg
        cases e
        refine hr (zz Z M1) H1 h1.r.zzd vs ds d (vws_ok h1.r r1 hd) hg Q fun v H' n p => ?_
        exact q M1 v H' (e1.trans (Ex2.new n)) (h1.new n) p
      · cases e
abbrev OM := S → Option (Option Int × List MO)
def SnO (t : TO) (m : OM) : Prop := ∀ Z M s σ H, Rel Z M s σ H → ∀ r o', m s = some (r, o') → ∀ Q : Option Int → Hp → Prop, (∀ M' H', Ex2 M H M' H' → Rel Z M' (s.on o') σ H' → Q r H') → t σ H Q
def mNoPart : OM := fun s => some (none, s.o)
def mPart (a : EM) : OM := fun s => match a s with
  | some (.d (.int i), o1) => some (some i, o1)
  | _ => none
theorem sn_nopart : SnO tNoPart mNoPart := by
  intro Z M s σ H h w o' e Q q
  cases e
  exact q M H (Ex2.refl M H) h
theorem sn_part {ta : TE} {a : EM} (ha : Sn ta a) : SnO (tPart ta) (mPart a) := by
  intro Z M s σ H h w o' e Q q
  unfold mPart at e
  split at e
  · rename_i i o1 ea
    cases e
    refine ha Z M s σ H h _ _ ea _ fun M1 v1 H1 e1 h1 r1 => ?_
    have r2 : Rp (zz Z M1) H1 v1 (.int i) := r1
    cases r2
    exact ⟨i, rfl, q M1 H1 e1 h1⟩
  · cases e
def RSD (r : V → Option Int → Option Int → Hp → VK → Prop) (g : D → Option Int → Option Int → Option D) : Prop := ∀ (Z : Zs) (H : Hp), (∀ a, Z a → H a ≠ none) → ∀ v1 d1 lo hi d, Rt Z H v1 d1 → g d1 lo hi = some d → ∀ Q : VK, (∀ v H', New H H' → Rp Z H' v d → Q v H') → r v1 lo hi H Q
theorem RSD.or {r r' : V → Option Int → Option Int → Hp → VK → Prop} {g g' : D → Option Int → Option Int → Option D} (h : RSD r g) (h' : RSD r' g') : RSD (fun x l u H Q => r x l u H Q ∨ r' x l u H Q) (fun a l u => oel (g a l u) (g' a l u)) := by
  intro Z H hz v1 d1 lo hi d r1 e Q q
  cases eg : g d1 lo hi with
  | some d' => simp only [oel, eg] at e; exact .inl (h Z H hz v1 d1 lo hi d r1 (by rw [eg]; exact e) Q q)
  | none => simp only [oel, eg] at e; exact .inr (h' Z H hz v1 d1 lo hi d r1 e Q q)
def mSl (g : D → Option Int → Option Int → Option D) (a : EM) (l u : OM) : EM := fun s => match a s with
  | none => none
  | some (x, o1) => match l (s.on o1) with
    | none => none
    | some (lo, o2) => match u (s.on o2) with
      | none => none
      | some (hi, o3) => match vw o3 x with
        | none => none
        | some d1 => (match g d1 lo hi with
          | some d => some (.d d, o3)
          | none => none)
theorem sn_sl {r : V → Option Int → Option Int → Hp → VK → Prop} {g : D → Option Int → Option Int → Option D} {ta : TE} {tl tu : TO} {a : EM} {l u : OM} (hr : RSD r g) (ha : Sn ta a) (hl : SnO tl l) (hu : SnO tu u) : Sn (tSl r ta tl tu) (mSl g a l u) := by
  intro Z M s σ H h w o' e Q q
  unfold mSl at e
  split at e
  · cases e
  · rename_i x o1 ea
    refine ha Z M s σ H h x o1 ea _ fun M1 v1 H1 e1 h1 r1 => ?_
    split at e
    · cases e
    · rename_i lo o2 el
      refine hl Z M1 (s.on o1) σ H1 h1 lo o2 el _ fun M2 H2 e2 h2 => ?_
      split at e
      · cases e
      · rename_i hi o3 eu
        refine hu Z M2 (s.on o2) σ H2 h2 hi o3 eu _ fun M3 H3 e3 h3 => ?_
        split at e
        · cases e
        · rename_i d1 w1
          split at e
          · rename_i d hd
            cases e
            refine hr (zz Z M3) H3 h3.r.zzd v1 d1 lo hi d (vw_ok h3.r (e3.rv (e2.rv r1)) w1) hd Q fun v H' n p => ?_
            exact q M3 v H' (((e1.trans e2).trans e3).trans (Ex2.new n)) (h3.new n) p
          · cases e
end
end AP

namespace AP
noncomputable section
open PySem PySem.Spec PyProof.Rows L2
variable [Tbls]
theorem size_ok {n : Nat} (h : n ≤ 100000) : n ≤ sizeLine := small_line h
def g2I (c : Int → Int → Bool) (f : Int → Int → D) : D → D → Option D
  | .int i, .int j => if c i j then some (f i j) else none
  | _, _ => none
theorem g2I_inv {c : Int → Int → Bool} {f : Int → Int → D} {a b d : D} (h : g2I c f a b = some d) : ∃ i j, a = .int i ∧ b = .int j ∧ c i j = true ∧ d = f i j := by
  unfold g2I at h
  split at h
  · split at h
    · rename_i i j hc
      cases h
      exact ⟨i, j, rfl, rfl, hc, rfl⟩
    · cases h
  · cases h
theorem r2_I {C : Int → Int → Prop} {c : Int → Int → Bool} {f : Int → Int → Int} (hc : ∀ i j, c i j = true → C i j) : R2D (rI C fun i j => .int (f i j)) (g2I c fun i j => .int (f i j)) := by
  intro Z H hz v1 v2 d1 d2 d r1 r2 e Q q
  obtain ⟨i, j, rfl, rfl, h1, rfl⟩ := g2I_inv e
  cases r1; cases r2
  exact ⟨i, j, rfl, rfl, hc i j h1, q _ H (New.refl H) (.int _)⟩
theorem r2_I0 {f : Int → Int → Int} : R2D (rI0 fun i j => .int (f i j)) (g2I (fun _ _ => true) fun i j => .int (f i j)) := by
  intro Z H hz v1 v2 d1 d2 d r1 r2 e Q q
  obtain ⟨i, j, rfl, rfl, h1, rfl⟩ := g2I_inv e
  cases r1; cases r2
  exact ⟨i, j, rfl, rfl, q _ H (New.refl H) (.int _)⟩
theorem r2_B0 {f : Int → Int → Bool} : R2D (rI0 fun i j => .bl (f i j)) (g2I (fun _ _ => true) fun i j => .bool (f i j)) := by
  intro Z H hz v1 v2 d1 d2 d r1 r2 e Q q
  obtain ⟨i, j, rfl, rfl, h1, rfl⟩ := g2I_inv e
  cases r1; cases r2
  exact ⟨i, j, rfl, rfl, q _ H (New.refl H) (.bl _)⟩
def g2S (f : Str → Str → Option D) : D → D → Option D
  | .str i, .str j => f i j
  | _, _ => none
theorem g2S_inv {f : Str → Str → Option D} {a b d : D} (h : g2S f a b = some d) : ∃ i j, a = .str i ∧ b = .str j ∧ f i j = some d := by
  unfold g2S at h
  split at h
  · exact ⟨_, _, rfl, rfl, h⟩
  · cases h
theorem r2_Sb {f : Str → Str → Bool} : R2D (fun x y H Q => ∃ i j, x = .str i ∧ y = .str j ∧ Q (.bl (f i j)) H) (g2S fun i j => some (.bool (f i j))) := by
  intro Z H hz v1 v2 d1 d2 d r1 r2 e Q q
  obtain ⟨i, j, rfl, rfl, e⟩ := g2S_inv e
  cases r1; cases r2; cases e
  exact ⟨i, j, rfl, rfl, q _ H (New.refl H) (.bl _)⟩
def gAddS : D → D → Option D := g2S fun i j => if i.length + j.length ≤ 100000 then some (.str (i ++ j)) else none
theorem r2_addS : R2D (fun x y H Q => ∃ i j, x = .str i ∧ y = .str j ∧ i.length + j.length ≤ sizeLine ∧ Q (.str (i ++ j)) H) gAddS := by
  intro Z H hz v1 v2 d1 d2 d r1 r2 e Q q
  obtain ⟨i, j, rfl, rfl, e'⟩ := g2S_inv e
  clear e
  cases r1; cases r2
  split at e'
  · rename_i h
    cases e'
    exact ⟨i, j, rfl, rfl, size_ok h, q _ H (New.refl H) (.str _)⟩
  · cases e'
def gAddL : D → D → Option D
  | .list xs, .list ys => if xs.length + ys.length ≤ 100000 then some (.list (xs ++ ys)) else none
  | _, _ => none
theorem r2_addL : R2D rCat gAddL := by
  intro Z H hz v1 v2 d1 d2 d r1 r2 e Q q
  unfold gAddL at e
  split at e
  · split at e
    · rename_i xs ys h
      cases e
      obtain ⟨a, us, rfl, ha, ra⟩ := r1
      obtain ⟨b, ws, rfl, hb, rb⟩ := r2
      refine ⟨a, b, us, ws, rfl, rfl, ha, hb, size_ok (by rw [ra.length, rb.length]; exact h), fun p hp => ?_⟩
      have n := New.upd (o := .lst (us ++ ws)) hp
      exact q _ _ n (.lst (fresh_nz hz hp) upd_same ((ra.append rb).new n))
    · cases e
  · cases e
def gAddT : D → D → Option D
  | .tuple xs, .tuple ys => if xs.length + ys.length ≤ 100000 then some (.tuple (xs ++ ys)) else none
  | _, _ => none
theorem rpA_nil {Z : Zs} {H : Hp} {us : List V} {xs : List D} (r : RpA Z H us xs) : us = [] ↔ xs = [] := by
  cases r <;> simp
theorem r2_addT {K : PySem.W.Frag} : R2D (rCatF K) gAddT := by
  intro Z H hz v1 v2 d1 d2 d r1 r2 e Q q
  unfold gAddT at e
  split at e
  · split at e
    · rename_i xs ys h
      cases e
      obtain ⟨a, us, rfl, ha, ra, na⟩ := r1
      obtain ⟨b, ws, rfl, hb, rb, nb⟩ := r2
      refine ⟨a, b, us, ws, rfl, rfl, ha.sq, hb.sq, size_ok (by rw [ra.length, rb.length]; exact h), fun e => ?_, fun _ e => ?_, fun _ _ p ob hp ho => ?_⟩
      · have e2 := (rpA_nil ra).mp e
        subst e2
        exact q _ H (New.refl H) (.tup nb hb rb)
      · have e2 := (rpA_nil rb).mp e
        subst e2
        rw [List.append_nil] at q
        exact q _ H (New.refl H) (.tup na ha ra)
      · have n := New.upd (o := .frz ob (.tup (us ++ ws))) hp
        exact q _ _ n (.tup (fresh_nz hz hp) (TupAt.new ho) ((ra.append rb).new n))
    · cases e
  · cases e
def shp (d : D) : Bool := noD d && SeqAt.shaped d
def gEq : D → D → Option D
  | .str x, .str y => some (.bool (decide (x = y)))
  | a, b => if shp a && shp b then some (.bool (PyData.eqv a b)) else none
def gNe : D → D → Option D
  | .str x, .str y => some (.bool (!decide (x = y)))
  | a, b => if shp a && shp b then some (.bool (!PyData.eqv a b)) else none
theorem dec_str' {x y : Str} : decide (V.str x = V.str y) = decide (x = y) := by
  by_cases h : x = y
  · simp [h]
  · simp [h]
theorem r2_eq {K : PySem.W.Frag} : R2D (fun x y H Q => rEq x y H Q ∨ rEqD K x y H Q) gEq := by
  intro Z H hz v1 v2 d1 d2 d r1 r2 e Q q
  unfold gEq at e
  split at e
  · cases r1; cases r2; cases e
    refine .inl ⟨rfl, ?_⟩
    rw [dec_str']
    exact q _ H (New.refl H) (.bl _)
  · split at e
    · rename_i h
      cases e
      simp only [shp, Bool.and_eq_true] at h
      exact .inr ⟨d1, d2, r1.dp h.1.1, r2.dp h.2.1, h.1.2, h.2.2, q _ H (New.refl H) (.bl _)⟩
    · cases e
theorem r2_ne {K : PySem.W.Frag} : R2D (fun x y H Q => rNe x y H Q ∨ rNeD K x y H Q) gNe := by
  intro Z H hz v1 v2 d1 d2 d r1 r2 e Q q
  unfold gNe at e
  split at e
  · cases r1; cases r2; cases e
    refine .inl ⟨rfl, ?_⟩
    rw [dec_str']
    exact q _ H (New.refl H) (.bl _)
  · split at e
    · rename_i h
      cases e
      simp only [shp, Bool.and_eq_true] at h
      exact .inr ⟨d1, d2, r1.dp h.1.1, r2.dp h.2.1, h.1.2, h.2.2, q _ H (New.refl H) (.bl _)⟩
    · cases e
theorem DGet.kR {H : Hp} {a : Addr} {kvs : List (Key × V)} {k : Key} (e : L2.Rd H a (.dK kvs)) : DGet H a (kV k) (valV kvs k) := .inl ⟨kvs, k, e, rfl, rfl⟩
def toKey : D → Option Key
  | .int i => some (.inl i)
  | .str x => some (.inr x)
  | _ => none
theorem toKey_inv {d : D} {k : Key} (h : toKey d = some k) : d = kD k := by
  cases d <;> simp [toKey] at h <;> subst h <;> rfl
def getP (ps : List (D × D)) (k : Key) : Option D := match ps with
  | [] => none
  | (a, b) :: r => if toKey a = some k then some b else getP r k
theorem getP_ok {Z : Zs} {H : Hp} : ∀ {kvs : List (Key × V)} {ps : List (D × D)} {k : Key}, RpK Z H kvs ps → (valV kvs k).isSome = (getP ps k).isSome ∧ ∀ d, getP ps k = some d → ∃ v, valV kvs k = some v ∧ Rp Z H v d
  | _, _, _, .nil => ⟨rfl, fun d h => nomatch h⟩
  | _, _, k, .cons (k := k') (kvs := kvs) (ps := ps) h r => by
    have e0 : toKey (kD k') = some k' := by cases k' <;> rfl
    by_cases hk : k' = k
    · subst hk
      rw [valV_pos rfl]
      simp only [getP, e0, if_true]
      exact ⟨rfl, fun d e => by cases e; exact ⟨_, rfl, h⟩⟩
    · rw [valV_neg hk]
      have e1 : ∀ d, getP ((kD k', d) :: ps) k = getP ps k := fun d => by
        simp only [getP, e0]
        rw [if_neg]
        intro z; exact hk (Option.some.inj z)
      rw [e1]
      exact getP_ok r
def gInB : D → D → Option Bool
  | .str x, .str y => (match x.cps.toList with
    | [c] => some (decide (c ∈ y.cps.toList))
    | _ => none)
  | x, .list ys => if shp x && shp (.list ys) then some (ys.any fun z => PyData.eqv z x) else none
  | x, .tuple ys => if shp x && shp (.tuple ys) then some (ys.any fun z => PyData.eqv z x) else none
  | x, .dict ps => (match toKey x with
    | some k => some (getP ps k).isSome
    | none => none)
  | _, _ => none
def gIn (a b : D) : Option D := (gInB a b).map PyData.bool
def gNotIn (a b : D) : Option D := (gInB a b).map fun k => PyData.bool (!k)
def rInA (K : PySem.W.Frag) (f : Bool → Bool) : R2 := fun x y H Q =>
  (∃ (c : Nat) (z : Str), x = .str ⟨#[c]⟩ ∧ y = .str z ∧ Q (.bl (f (decide (c ∈ z.cps.toList)))) H) ∨
  (∃ d ds, Dp K H x d ∧ Dp K H y (.list ds) ∧ SeqAt.shaped d = true ∧ SeqAt.shaped (.list ds) = true ∧ Q (.bl (f (ds.any fun z => PyData.eqv z d))) H) ∨
  (∃ d ds, Dp K H x d ∧ Dp K H y (.tuple ds) ∧ SeqAt.shaped d = true ∧ SeqAt.shaped (.tuple ds) = true ∧ Q (.bl (f (ds.any fun z => PyData.eqv z d))) H) ∨
  (∃ a o, y = .ref a ∧ DGet H a x o ∧ Q (.bl (f o.isSome)) H)
theorem op_inA {X : Cx} (hu : X.A.units + 65 < cLine) : OpR X (compareOp .In) (rInA X.K fun b => b) := by
  intro pins s σ H x y v u Q I rx ry h
  rcases h with ⟨c, z, h1, h2, q⟩ | ⟨d, ds, h1, h2, h3, h4, q⟩ | ⟨d, ds, h1, h2, h3, h4, q⟩ | ⟨a, o, h1, h2, q⟩
  · exact op_in_sign pins s σ H x y v u Q I rx ry ⟨c, z, h1, h2, q⟩
  · exact op_inD hu pins s σ H x y v u Q I rx ry ⟨d, ds, h1, h2, h3, h4, q⟩
  · obtain ⟨as, r1⟩ := Dp.reads I d x v h1 rx
    obtain ⟨bs, r2⟩ := Dp.reads I (.tuple ds) y u h2 ry
    exact SeqAt.in_tuple_reads r2 r1 (SeqAt.canLay_of_shaped h4) (SeqAt.canLay_of_shaped h3) (room_in_shaped h3 hu) ⟨.bl _, H, I, rfl, q⟩
  · subst h1
    cases ry
    exact d_in (by omega) I h2 rx fun s' I' => ⟨.bl _, H, I', rfl, q⟩
theorem op_notInA {X : Cx} (hu : X.A.units + 65 < cLine) : OpR X (compareOp .NotIn) (rInA X.K fun b => !b) := by
  intro pins s σ H x y v u Q I rx ry h
  rcases h with ⟨c, z, h1, h2, q⟩ | ⟨d, ds, h1, h2, h3, h4, q⟩ | ⟨d, ds, h1, h2, h3, h4, q⟩ | ⟨a, o, h1, h2, q⟩
  · exact op_notIn_sign pins s σ H x y v u Q I rx ry ⟨c, z, h1, h2, q⟩
  · exact op_notInD hu pins s σ H x y v u Q I rx ry ⟨d, ds, h1, h2, h3, h4, q⟩
  · obtain ⟨as, r1⟩ := Dp.reads I d x v h1 rx
    obtain ⟨bs, r2⟩ := Dp.reads I (.tuple ds) y u h2 ry
    exact SeqAt.notIn_tuple_reads r2 r1 (SeqAt.canLay_of_shaped h4) (SeqAt.canLay_of_shaped h3) (room_in_shaped h3 hu) ⟨.bl _, H, I, rfl, q⟩
  · subst h1
    cases ry
    exact d_notIn (by omega) I h2 rx fun s' I' => ⟨.bl _, H, I', rfl, q⟩
theorem key_rt {Z : Zs} {H : Hp} {v : V} {d : D} {k : Key} (h : Rt Z H v d) (e : toKey d = some k) : v = kV k := by
  have e2 := toKey_inv e
  subst e2
  cases k <;> exact h
theorem r2_in {K : PySem.W.Frag} {f : Bool → Bool} : R2D (rInA K f) (fun a b => (gInB a b).map fun k => PyData.bool (f k)) := by
  intro Z H hz v1 v2 d1 d2 d r1 r2 e Q q
  obtain ⟨k, e1, rfl⟩ := Option.map_eq_some_iff.mp e
  have q' : ∀ b, b = k → Q (.bl (f b)) H := fun b hb => by subst hb; exact q _ H (New.refl H) (.bl _)
  unfold gInB at e1
  split at e1
  · rename_i x y
    split at e1
    · rename_i c hc
      cases e1
      cases r1; cases r2
      have ex : x = ⟨#[c]⟩ := by
        cases x with
        | mk cps =>
          have : cps = #[c] := by
            apply Array.toList_inj.mp
            simpa using hc
          rw [this]
      subst ex
      exact .inl ⟨c, y, rfl, rfl, q' _ rfl⟩
    · cases e1
  · split at e1
    · rename_i x ys h
      cases e1
      simp only [shp, Bool.and_eq_true] at h
      exact .inr (.inl ⟨d1, ys, r1.dp h.1.1, r2.dp h.2.1, h.1.2, h.2.2, q' _ rfl⟩)
    · cases e1
  · split at e1
    · rename_i x ys h
      cases e1
      simp only [shp, Bool.and_eq_true] at h
      exact .inr (.inr (.inl ⟨d1, ys, r1.dp h.1.1, r2.dp h.2.1, h.1.2, h.2.2, q' _ rfl⟩))
    · cases e1
  · split at e1
    · rename_i x ps k' hk
      cases e1
      obtain ⟨a, kvs, rfl, ha, ra⟩ := r2
      have hv := key_rt r1 hk
      subst hv
      exact .inr (.inr (.inr ⟨a, _, rfl, DGet.kR ha, by rw [(getP_ok ra).1]; exact q' _ rfl⟩))
    · cases e1
  · cases e1
def rIxK : R2 := fun x y H Q => ∃ a k kvs v, x = .ref a ∧ y = kV k ∧ L2.Rd H a (.dK kvs) ∧ valV kvs k = some v ∧ Q v H
theorem ix_dK {X : Cx} (hu : X.A.units + 64 < cLine) : IxR X rIxK := by
  intro value slice pins s σ H x y v u Q I rx ry h hs
  obtain ⟨a, k, kvs, w, rfl, rfl, ha, hv, q⟩ := h
  cases rx
  have g : DGet H a (kV k) (some w) := by rw [← hv]; exact DGet.kR ha
  exact tail_any (dict_typeIs I g) PySem.F.slot_dict_getitem.lookup (d_getItem (by omega) I g ry fun w' s' I' r' => ⟨w, H, I', r', q⟩) hs
def rIxA (K : PySem.W.Frag) : R2 := fun x y H Q => rIx K x y H Q ∨ rIxK x y H Q
theorem ix_A {X : Cx} (hu : X.A.units + 64 < cLine) : IxR X (rIxA X.K) := ix_seq.or (ix_dK hu)
def gIx : D → D → Option D
  | .list xs, .int i => atI xs i
  | .tuple xs, .int i => atI xs i
  | .str z, .int i => if z.length ≤ 100000 then (atI z.cps.toList i).map fun c => PyData.str ⟨#[c]⟩ else none
  | .dict ps, d => (match toKey d with
    | some k => getP ps k
    | none => none)
  | _, _ => none
theorem atI_inv {α : Type} {xs : List α} {i : Int} {x : α} (h : atI xs i = some x) : ∃ j, ixN xs.length i = some j ∧ xs[j]? = some x := by
  unfold atI at h
  obtain ⟨j, h1, h2⟩ := Option.bind_eq_some_iff.mp h
  exact ⟨j, h1, h2⟩
theorem atI_rp {Z : Zs} {H : Hp} {us : List V} {xs : List D} {i : Int} {d : D} (r : RpA Z H us xs) (h : atI xs i = some d) : ∃ v, atI us i = some v ∧ Rp Z H v d := by
  obtain ⟨j, h1, h2⟩ := atI_inv h
  obtain ⟨v, h3, h4⟩ := r.get h2
  refine ⟨v, ?_, h4⟩
  unfold atI
  rw [r.length, h1]
  exact h3
theorem r2_ix {K : PySem.W.Frag} : R2D (rIxA K) gIx := by
  intro Z H hz v1 v2 d1 d2 d r1 r2 e Q q
  unfold gIx at e
  split at e
  · rename_i xs i
    obtain ⟨a, us, rfl, ha, ra⟩ := r1
    cases r2
    obtain ⟨v, h1, h2⟩ := atI_rp ra e
    exact .inl (.inl ⟨a, us, i, v, rfl, rfl, SqL.of ha, h1, q v H (New.refl H) h2⟩)
  · rename_i xs i
    obtain ⟨a, us, rfl, ha, ra, _⟩ := r1
    cases r2
    obtain ⟨v, h1, h2⟩ := atI_rp ra e
    exact .inl (.inr (.inl ⟨a, us, i, v, rfl, rfl, ha.sq, h1, q v H (New.refl H) h2⟩))
  · rename_i z i
    split at e
    · rename_i hl
      obtain ⟨c, h1, h2⟩ := Option.map_eq_some_iff.mp e
      subst h2
      cases r1
      cases r2
      exact .inl (.inr (.inr ⟨z, i, c, rfl, rfl, size_ok hl, h1, q _ H (New.refl H) (.str _)⟩))
    · cases e
  · rename_i ps d2'
    split at e
    · rename_i k hk
      obtain ⟨a, kvs, rfl, ha, ra⟩ := r1
      have hv := key_rt r2 hk
      subst hv
      obtain ⟨v, h1, h2⟩ := (getP_ok ra).2 d e
      exact .inr ⟨a, k, kvs, v, rfl, rfl, ha, h1, q v H (New.refl H) h2⟩
    · cases e
  · cases e
def cutD {α : Type} (xs : List α) (lo hi : Option Int) : List α := (xs.drop (HT.sIx xs.length 0 lo)).take (HT.sIx xs.length xs.length hi - HT.sIx xs.length 0 lo)
theorem cut_rp {Z : Zs} {H : Hp} {us : List V} {xs : List D} (r : RpA Z H us xs) (lo hi : Option Int) : RpA Z H (cutV us lo hi) (cutD xs lo hi) := by
  unfold cutV cutD
  rw [r.length]
  exact (r.drop _).take _
def gSl : D → Option Int → Option Int → Option D
  | .list xs, lo, hi => some (.list (cutD xs lo hi))
  | .tuple xs, lo, hi => some (.tuple (cutD xs lo hi))
  | .str z, lo, hi => if z.length ≤ 100000 then some (.str ⟨(cutD z.cps.toList lo hi).toArray⟩) else none
  | _, _, _ => none
def rSlU (K : PySem.W.Frag) : V → Option Int → Option Int → Hp → VK → Prop := fun x lo hi H Q => rSlL K x lo hi H Q ∨ rSlF K x lo hi H Q ∨ rSlS x lo hi H Q
theorem sl_U {X : Cx} : SlR X (rSlU X.K) := sl_list.or (sl_tupF.or sl_str)
theorem cut_whole {α : Type} (xs : List α) (lo hi : Option Int) (h : HT.sIx xs.length 0 lo = 0 ∧ HT.sIx xs.length xs.length hi = xs.length) : cutD xs lo hi = xs := by
  unfold cutD
  rw [h.1, h.2, List.drop_zero, Nat.sub_zero, List.take_length]
theorem rs_U {K : PySem.W.Frag} : RSD (rSlU K) gSl := by
  intro Z H hz v1 d1 lo hi d r1 e Q q
  unfold gSl at e
  split at e
  · rename_i xs
    cases e
    obtain ⟨a, us, rfl, ha, ra⟩ := r1
    refine .inl ⟨a, us, rfl, SqL.of ha, fun p hp => ?_⟩
    have n := New.upd (o := .lst (cutV us lo hi)) hp
    exact q _ _ n (.lst (fresh_nz hz hp) upd_same ((cut_rp ra lo hi).new n))
  · rename_i xs
    cases e
    obtain ⟨a, us, rfl, ha, ra, na⟩ := r1
    refine .inr (.inl ⟨a, us, rfl, ha.sq, fun hw => ?_, fun _ p ob hp ho => ?_⟩)
    · rw [ra.length] at hw
      rw [cut_whole xs lo hi hw] at q
      exact q _ H (New.refl H) (.tup na ha ra)
    · have n := New.upd (o := .frz ob (.tup (cutV us lo hi))) hp
      exact q _ _ n (.tup (fresh_nz hz hp) (TupAt.new ho) ((cut_rp ra lo hi).new n))
  · rename_i z
    split at e
    · rename_i hl
      cases e
      cases r1
      refine .inr (.inr ⟨z, rfl, size_ok hl, ?_⟩)
      have ez : cutS z lo hi = ⟨(cutD z.cps.toList lo hi).toArray⟩ := by
        unfold cutS cutD
        have hlen : z.cps.toList.length = z.length := by simp [Str.length]
        rw [hlen]
      rw [ez]
      exact q _ H (New.refl H) (.str _)
    · cases e
  · cases e
end
end AP

namespace AP
noncomputable section
open PySem PySem.Spec PyProof.Rows L2
variable [Tbls]
abbrev LeS (x y : Str) : Prop := ltCps y.cps.toList x.cps.toList = false
theorem leS_iff {x y : Str} : LeS x y ↔ x.cps.toList ≤ y.cps.toList := by
  unfold LeS
  rw [ltCps_eq, decide_eq_false_iff_not]
  exact Iff.rfl
theorem leS_trans {x y z : Str} (a : LeS x y) (b : LeS y z) : LeS x z := by
  rw [leS_iff] at *
  exact List.le_trans a b
theorem leS_total (x y : Str) : LeS x y ∨ LeS y x := by
  rw [leS_iff, leS_iff]
  exact List.le_total _ _
theorem str_ext' {x y : Str} (h : x.cps.toList = y.cps.toList) : x = y := by
  cases x with
  | mk a =>
    cases y with
    | mk b =>
      have : a = b := Array.toList_inj.mp h
      rw [this]
theorem leS_anti {x y : Str} (a : LeS x y) (b : LeS y x) : x = y := by
  rw [leS_iff] at *
  exact str_ext' (List.le_antisymm a b)
def insS (x : Str) : List Str → List Str
  | [] => [x]
  | y :: r => if ltCps y.cps.toList x.cps.toList then y :: insS x r else x :: y :: r
def sortS : List Str → List Str
  | [] => []
  | x :: r => insS x (sortS r)
theorem insS_perm (x : Str) : ∀ l : List Str, (insS x l).Perm (x :: l)
  | [] => List.Perm.refl _
  | y :: r => by
    unfold insS
    split
    · exact ((insS_perm x r).cons y).trans (List.Perm.swap x y r)
    · exact List.Perm.refl _
theorem sortS_perm : ∀ l : List Str, (sortS l).Perm l
  | [] => List.Perm.refl _
  | x :: r => (insS_perm x _).trans ((sortS_perm r).cons x)
theorem insS_pw (x : Str) : ∀ l : List Str, l.Pairwise LeS → (insS x l).Pairwise LeS
  | [], _ => by simp [insS]
  | y :: r, h => by
    unfold insS
    rw [List.pairwise_cons] at h
    split
    · rename_i hy
      rw [List.pairwise_cons]
      refine ⟨fun z hz => ?_, insS_pw x r h.2⟩
      rcases List.mem_cons.mp ((insS_perm x r).mem_iff.mp hz) with e | e
      · subst e
        rcases leS_total y z with q | q
        · exact q
        · rw [q] at hy; cases hy
      · exact h.1 z e
    · rename_i hy
      have hxy : LeS x y := by simpa using hy
      rw [List.pairwise_cons]
      refine ⟨fun z hz => ?_, List.pairwise_cons.mpr h⟩
      rcases List.mem_cons.mp hz with e | e
      · subst e; exact hxy
      · exact leS_trans hxy (h.1 z e)
theorem sortS_pw : ∀ l : List Str, (sortS l).Pairwise LeS
  | [] => List.Pairwise.nil
  | x :: r => insS_pw x _ (sortS_pw r)
theorem rising_pw : ∀ (l : List Str) (p : Str), risingS p l = true → (p :: l).Pairwise LeS
  | [], p, _ => by simp
  | x :: r, p, h => by
    simp only [risingS, Bool.and_eq_true, Bool.not_eq_true'] at h
    have h2 := rising_pw r x h.2
    rw [List.pairwise_cons]
    refine ⟨fun z hz => ?_, h2⟩
    rcases List.mem_cons.mp hz with e | e
    · subst e; exact h.1
    · exact leS_trans h.1 ((List.pairwise_cons.mp h2).1 z e)
theorem sorted_pw : ∀ (l : List Str), sortedS l = true → l.Pairwise LeS
  | [], _ => List.Pairwise.nil
  | x :: r, h => rising_pw r x h
theorem sortS_only {ys xs : List Str} (hp : ys.Perm xs) (hs : sortedS ys = true) : ys = sortS xs :=
  List.Perm.eq_of_pairwise (fun _ _ _ _ a b => leS_anti a b) (sorted_pw ys hs) (sortS_pw xs) (hp.trans (sortS_perm xs).symm)
def insI (x : Int) : List Int → List Int
  | [] => [x]
  | y :: r => if y < x then y :: insI x r else x :: y :: r
def sortI : List Int → List Int
  | [] => []
  | x :: r => insI x (sortI r)
theorem insI_perm (x : Int) : ∀ l : List Int, (insI x l).Perm (x :: l)
  | [] => List.Perm.refl _
  | y :: r => by
    unfold insI
    split
    · exact ((insI_perm x r).cons y).trans (List.Perm.swap x y r)
    · exact List.Perm.refl _
theorem sortI_perm : ∀ l : List Int, (sortI l).Perm l
  | [] => List.Perm.refl _
  | x :: r => (insI_perm x _).trans ((sortI_perm r).cons x)
theorem insI_pw (x : Int) : ∀ l : List Int, l.Pairwise (· ≤ ·) → (insI x l).Pairwise (· ≤ ·)
  | [], _ => by simp [insI]
  | y :: r, h => by
    unfold insI
    rw [List.pairwise_cons] at h
    split
    · rename_i hy
      rw [List.pairwise_cons]
      refine ⟨fun z hz => ?_, insI_pw x r h.2⟩
      rcases List.mem_cons.mp ((insI_perm x r).mem_iff.mp hz) with e | e
      · subst e; omega
      · exact h.1 z e
    · rename_i hy
      rw [List.pairwise_cons]
      refine ⟨fun z hz => ?_, List.pairwise_cons.mpr h⟩
      rcases List.mem_cons.mp hz with e | e
      · subst e; omega
      · have := h.1 z e; omega
theorem sortI_pw : ∀ l : List Int, (sortI l).Pairwise (· ≤ ·)
  | [] => List.Pairwise.nil
  | x :: r => insI_pw x _ (sortI_pw r)
theorem sortI_only {ys xs : List Int} (hp : ys.Perm xs) (hs : ys.Pairwise (· ≤ ·)) : ys = sortI xs :=
  List.Perm.eq_of_pairwise (fun _ _ _ _ a b => Int.le_antisymm a b) hs (sortI_pw xs) (hp.trans (sortI_perm xs).symm)
def strsOf : List D → Option (List Str)
  | [] => some []
  | .str x :: r => (match strsOf r with
    | some l => some (x :: l)
    | none => none)
  | _ :: _ => none
def intsOf : List D → Option (List Int)
  | [] => some []
  | .int x :: r => (match intsOf r with
    | some l => some (x :: l)
    | none => none)
  | _ :: _ => none
def boolsOf : List D → Option (List Bool)
  | [] => some []
  | .bool x :: r => (match boolsOf r with
    | some l => some (x :: l)
    | none => none)
  | _ :: _ => none
theorem strsOf_ok {Z : Zs} {H : Hp} : ∀ {us : List V} {ds : List D} {xs : List Str}, RpA Z H us ds → strsOf ds = some xs → us = xs.map V.str ∧ ds = xs.map PyData.str
  | _, _, _, .nil, e => by simp only [strsOf] at e; cases e; exact ⟨rfl, rfl⟩
  | _, _, _, .cons (d := d) (ds := ds) h r, e => by
    cases d <;> simp only [strsOf] at e <;> try cases e
    cases h
    cases e2 : strsOf ds with
    | none => rw [e2] at e; cases e
    | some l =>
      rw [e2] at e; cases e
      obtain ⟨a, b⟩ := strsOf_ok r e2
      rw [a, b]; exact ⟨rfl, rfl⟩
theorem intsOf_ok {Z : Zs} {H : Hp} : ∀ {us : List V} {ds : List D} {xs : List Int}, RpA Z H us ds → intsOf ds = some xs → us = xs.map V.int ∧ ds = xs.map PyData.int
  | _, _, _, .nil, e => by simp only [intsOf] at e; cases e; exact ⟨rfl, rfl⟩
  | _, _, _, .cons (d := d) (ds := ds) h r, e => by
    cases d <;> simp only [intsOf] at e <;> try cases e
    cases h
    cases e2 : intsOf ds with
    | none => rw [e2] at e; cases e
    | some l =>
      rw [e2] at e; cases e
      obtain ⟨a, b⟩ := intsOf_ok r e2
      rw [a, b]; exact ⟨rfl, rfl⟩
theorem boolsOf_ok {Z : Zs} {H : Hp} : ∀ {us : List V} {ds : List D} {xs : List Bool}, RpA Z H us ds → boolsOf ds = some xs → us = xs.map V.bl ∧ ds = xs.map PyData.bool
  | _, _, _, .nil, e => by simp only [boolsOf] at e; cases e; exact ⟨rfl, rfl⟩
  | _, _, _, .cons (d := d) (ds := ds) h r, e => by
    cases d <;> simp only [boolsOf] at e <;> try cases e
    cases h
    cases e2 : boolsOf ds with
    | none => rw [e2] at e; cases e
    | some l =>
      rw [e2] at e; cases e
      obtain ⟨a, b⟩ := boolsOf_ok r e2
      rw [a, b]; exact ⟨rfl, rfl⟩
theorem rpA_strs {Z : Zs} {H : Hp} : ∀ xs : List Str, RpA Z H (xs.map V.str) (xs.map PyData.str)
  | [] => .nil
  | x :: r => .cons (.str x) (rpA_strs r)
theorem rpA_ints {Z : Zs} {H : Hp} : ∀ xs : List Int, RpA Z H (xs.map V.int) (xs.map PyData.int)
  | [] => .nil
  | x :: r => .cons (.int x) (rpA_ints r)
def gLen : List D → Option D
  | [.str x] => if x.length ≤ 100000 then some (.int x.length) else none
  | [.list ds] => some (.int ds.length)
  | [.tuple ds] => some (.int ds.length)
  | [.dict ds] => some (.int ds.length)
  | _ => none
def rLenA (K : PySem.W.Frag) : List V → Hp → VK → Prop := fun xs H Q => (∃ x n, xs = [x] ∧ LenV K x H n ∧ Q (.int n) H) ∨ ∃ a kvs, xs = [V.ref a] ∧ L2.Rd H a (.dK kvs) ∧ Q (.int kvs.length) H
theorem call_lenR {X : Cx} : CallR X (.builtin "len") (fun xs H Q => ∃ a kvs, xs = [V.ref a] ∧ L2.Rd H a (.dK kvs) ∧ Q (.int kvs.length) H) := by
  intro pins s σ H xs us Q I r h
  obtain ⟨a, kvs, rfl, ha, q⟩ := h
  obtain ⟨u, rfl, ru⟩ := vals1 r
  cases ru
  exact d_len I ha fun t s' I' => ⟨.int kvs.length, H, I', ⟨t, rfl⟩, q⟩
theorem call_lenA {X : Cx} : CallR X (.builtin "len") (rLenA X.K) := call_len.or call_lenR
theorem rc_len {K : PySem.W.Frag} : RCD (rLenA K) gLen := by
  intro Z H hz vs ds d r e Q q
  unfold gLen at e
  split at e
  · rename_i x
    split at e
    · rename_i hl
      cases e
      cases r with
      | cons h t => cases t; cases h; exact .inl ⟨_, _, rfl, ⟨size_ok hl, rfl⟩, q _ H (New.refl H) (.int _)⟩
    · cases e
  · cases e
    cases r with
    | cons h t =>
      cases t
      obtain ⟨a, us, rfl, ha, ra⟩ := h
      exact .inl ⟨_, us.length, rfl, .inl ⟨us, SqL.of ha, rfl⟩, by rw [ra.length]; exact q _ H (New.refl H) (.int _)⟩
  · cases e
    cases r with
    | cons h t =>
      cases t
      obtain ⟨a, us, rfl, ha, ra, _⟩ := h
      exact .inl ⟨_, us.length, rfl, .inr ⟨us, ha.sq, rfl⟩, by rw [ra.length]; exact q _ H (New.refl H) (.int _)⟩
  · cases e
    cases r with
    | cons h t =>
      cases t
      obtain ⟨a, us, rfl, ha, ra⟩ := h
      exact .inr ⟨a, us, rfl, ha, by rw [ra.length]; exact q _ H (New.refl H) (.int _)⟩
  · cases e
def gTuple : List D → Option D
  | [.list ds] => some (.tuple ds)
  | [.tuple ds] => some (.tuple ds)
  | _ => none
theorem rc_tuple {K : PySem.W.Frag} : RCD (fun xs H Q => ∃ p ys, xs = [.ref p] ∧ ((SqL K H p ys ∧ nTup ys H Q) ∨ (SqT K H p ys ∧ Q (.ref p) H))) gTuple := by
  intro Z H hz vs ds d r e Q q
  unfold gTuple at e
  split at e
  · cases e
    cases r with
    | cons h t =>
      cases t
      obtain ⟨a, us, rfl, ha, ra⟩ := h
      refine ⟨a, us, rfl, .inl ⟨SqL.of ha, fun p ob hp ho => ?_⟩⟩
      have n := New.upd (o := .frz ob (.tup us)) hp
      exact q _ _ n (.tup (fresh_nz hz hp) (TupAt.new ho) (ra.new n))
  · cases e
    cases r with
    | cons h t =>
      cases t
      obtain ⟨a, us, rfl, ha, ra, na⟩ := h
      exact ⟨a, us, rfl, .inr ⟨ha.sq, q _ H (New.refl H) (.tup na ha ra)⟩⟩
  · cases e
def gAll : List D → Option D
  | [.list ds] => (match boolsOf ds with
    | some bs => some (.bool (bs.all id))
    | none => none)
  | _ => none
def gAny : List D → Option D
  | [.list ds] => (match boolsOf ds with
    | some bs => some (.bool (bs.any id))
    | none => none)
  | _ => none
theorem rc_all {K : PySem.W.Frag} : RCD (rAll K) gAll := by
  intro Z H hz vs ds d r e Q q
  unfold gAll at e
  split at e
  · split at e
    · rename_i bs hb
      cases e
      cases r with
      | cons h t =>
        cases t
        obtain ⟨a, us, rfl, ha, ra⟩ := h
        obtain ⟨e1, _⟩ := boolsOf_ok ra hb
        exact ⟨a, bs, rfl, SqL.of (by rw [← e1]; exact ha), q _ H (New.refl H) (.bl _)⟩
    · cases e
  · cases e
theorem rc_any {K : PySem.W.Frag} : RCD (rAny K) gAny := by
  intro Z H hz vs ds d r e Q q
  unfold gAny at e
  split at e
  · split at e
    · rename_i bs hb
      cases e
      cases r with
      | cons h t =>
        cases t
        obtain ⟨a, us, rfl, ha, ra⟩ := h
        obtain ⟨e1, _⟩ := boolsOf_ok ra hb
        exact ⟨a, bs, rfl, SqL.of (by rw [← e1]; exact ha), q _ H (New.refl H) (.bl _)⟩
    · cases e
  · cases e
def gInt : List D → Option D
  | [.int i] => some (.int i)
  | [.bool k] => some (.int (if k then 1 else 0))
  | _ => none
theorem rc_int : RCD (fun xs H Q => (∃ i, xs = [.int i] ∧ Q (.int i) H) ∨ ∃ k, xs = [.bl k] ∧ Q (.int (if k then 1 else 0)) H) gInt := by
  intro Z H hz vs ds d r e Q q
  unfold gInt at e
  split at e
  · cases e
    cases r with
    | cons h t => cases t; cases h; exact .inl ⟨_, rfl, q _ H (New.refl H) (.int _)⟩
  · cases e
    cases r with
    | cons h t => cases t; cases h; exact .inr ⟨_, rfl, q _ H (New.refl H) (.int _)⟩
  · cases e
def gSorted : List D → Option D
  | [.list ds] => (match strsOf ds with
    | some xs => if xs.length < 64 then some (.list ((sortS xs).map PyData.str)) else none
    | none => (match intsOf ds with
      | some xs => if xs.length < 64 then some (.list ((sortI xs).map PyData.int)) else none
      | none => none))
  | _ => none
def rSortA (K : PySem.W.Frag) : List V → Hp → VK → Prop := fun xs H Q => rSortedS K xs H Q ∨ rSorted K xs H Q
theorem cr_sortA {X : Cx} : CallR X (.builtin "sorted") (rSortA X.K) := cr_sortedS.or cr_sorted
theorem rc_sorted {K : PySem.W.Frag} : RCD (rSortA K) gSorted := by
  intro Z H hz vs ds d r e Q q
  unfold gSorted at e
  split at e
  · cases r with
    | cons h t =>
      cases t
      obtain ⟨a, us, rfl, ha, ra⟩ := h
      split at e
      · rename_i xs hs
        split at e
        · rename_i hl
          cases e
          obtain ⟨e1, _⟩ := strsOf_ok ra hs
          refine .inl ⟨a, xs, rfl, SqL.of (by rw [← e1]; exact ha), hl, fun ys p hp hy hn => ?_⟩
          have ey := sortS_only hp hy
          subst ey
          exact q _ _ (New.upd hn) (.lst (fresh_nz hz hn) upd_same (rpA_strs _))
        · cases e
      · split at e
        · rename_i xs hs
          split at e
          · rename_i hl
            cases e
            obtain ⟨e1, _⟩ := intsOf_ok ra hs
            refine .inr ⟨a, xs, rfl, SqL.of (by rw [← e1]; exact ha), hl, fun ys p hp hy hn => ?_⟩
            have ey := sortI_only hp hy
            subst ey
            exact q _ _ (New.upd hn) (.lst (fresh_nz hz hn) upd_same (rpA_ints _))
          · cases e
        · cases e
  · cases e
def tyOf : D → String
  | .none => "NoneType"
  | .bool _ => "bool"
  | .int _ => "int"
  | .str _ => "str"
  | .list _ => "list"
  | .tuple _ => "tuple"
  | .dict _ => "dict"
theorem ty_rt {K : PySem.W.Frag} {Z : Zs} {H : Hp} {v : V} {d : D} (h : Rt Z H v d) : TyX K H v (.type (tyOf d)) := by
  cases d with
  | none => cases h; exact .base .non
  | bool b => cases h; exact .base (.bl b)
  | int i => cases h; exact .base (.int i)
  | str x => cases h; exact .base (.str x)
  | list ds => obtain ⟨a, xs, rfl, q, r⟩ := h; exact .base (.lst q)
  | tuple ds => obtain ⟨a, xs, rfl, q, r, _⟩ := h; exact q.ty
  | dict ps => obtain ⟨a, xs, rfl, q, r⟩ := h; exact q.elim (fun q => .base (.dK q)) fun ⟨_, q⟩ => .fDict q
inductive Ty where
  | int | bool | str | tuple | list | dict
def Ty.nm : Ty → String
  | .int => "int"
  | .bool => "bool"
  | .str => "str"
  | .tuple => "tuple"
  | .list => "list"
  | .dict => "dict"
def isiB : Ty → D → Bool
  | .int, .int _ => true
  | .int, .bool _ => true
  | .bool, .bool _ => true
  | .str, .str _ => true
  | .tuple, .tuple _ => true
  | .list, .list _ => true
  | .dict, .dict _ => true
  | _, _ => false
theorem isi_kit (T : Ty) (d : D) : kitB (tyOf d) T.nm = some (isiB T d) := by
  cases T <;> cases d <;> (simp only [tyOf, Ty.nm, isiB]; decide +kernel)
def mIsi (T : Ty) (a : EM) : EM := fun s => match a s with
  | none => none
  | some (x, o1) => match vw o1 x with
    | none => none
    | some d => some (.d (.bool (isiB T d)), o1)
theorem sn_isi {K : PySem.W.Frag} {T : Ty} {ta : TE} {a : EM} (ha : Sn ta a) : Sn (tCB (rIsi K) (tCons ta (tCons (tC (.ty T.nm)) tNil))) (mIsi T a) := by
  intro Z M s σ H h w o' e Q q
  unfold mIsi at e
  split at e
  · cases e
  · rename_i x o1 ea
    refine ha Z M s σ H h x o1 ea _ fun M1 v1 H1 e1 h1 r1 => ?_
    split at e
    · cases e
    · rename_i d hd
      cases e
      exact ⟨v1, .ty T.nm, _, .type T.nm, _, rfl, .ty T.nm, ty_rt (vw_ok h1.r r1 hd), kit_ty (isi_kit T d), q M1 _ H1 e1 h1 (.bl _)⟩
end
end AP

namespace AP
noncomputable section
open PySem PySem.Spec PyProof.Rows L2
variable [Tbls]
class Gd where
  b : Bool
abbrev gT : Gd := ⟨true⟩
def GOk [Gd] (A : Around) : Prop := Gd.b = true → A.guards = some []
variable [Gd]
structure FnG (P : Program) (w : World) (K : PySem.W.Frag) (mg : Str → Option Value) (base : Heap) (CX : CXT) (k : Nat) (f : Addr) (fd : FuncData) (ps : List Str) (sp : Sp) : Prop where
  many : ∀ vs H Q E, sp vs H Q E → vs.length = ps.length
  goes : ∀ (A : Around) (outer : List Env) (s : Shared) (H : Hp) (args : Args) (us : List Value) (vs : List V) (Q : VK) (E : XK), GOk A → Room k A → Env0 P w K mg base A outer s H →
    BindsTo s fd args (ps.zip us) → Vals vs us → sp vs H Q E → codeAny (model P w) A (.call (.ref f) args) (CR CX outer P w H s Q E) s
section
variable {P : Program} {w : World} {K : PySem.W.Frag} {mg : Str → Option Value} {base : Heap} {x qual : Str} {params : Arguments} {body : List Stmt} {scope : Scope} {dvs : List V} {kws : List (Str × V)} {f : Addr} {fd : FuncData}
theorem FnG.mono {CX : CXT} {j k : Nat} {ps : List Str} {sp : Sp} (F : FnG P w K mg base CX j f fd ps sp) (h : j ≤ k) : FnG P w K mg base CX k f fd ps sp :=
  ⟨F.many, fun A outer s H args us vs Q E g hr => F.goes A outer s H args us vs Q E g (hr.mono h)⟩
theorem fnG_ok {CX : CXT} {N ps : List Str} {k : Nat} {sp : Sp} (F : FunD K x qual params body scope dvs kws f fd) (sc : FnScope N ps scope) (many : ∀ vs H Q E, sp vs H Q E → vs.length = ps.length)
    (reading : ∀ (cdv : Value), fd.code = cdv → ∀ (A : Around) (outer : List Env) (s : Shared) (H : Hp) (vs : List V) (Q : VK) (E : XK), GOk A → Room k (A.deeper (envOfC qual scope s.heap.objs.size f cdv)) → sp vs H Q E →
      ∃ t, PSs (cxOf CX P w K mg base N qual scope f cdv A outer s H E) body t ∧ t { nx := fun _ G => Q .non G, rt := Q } (start N vs) H) :
    FnG P w K mg base CX (k + 1) f fd ps sp := by
  obtain ⟨oc, od, dV, kV, doc, pm, an, cdv, ct, osl, e, lk, hcd, _, _⟩ := F.ex
  subst e
  constructor
  · exact many
  intro A outer s H args us vs Q E hg room e0 binds vals wish
  have stays : ∀ b o, base.get? b = some o → s.heap.get? b = some o := fun b o q => (e0.bs b o q).1
  have inK : K.In s.heap := e0.mod.kin.keeps stays
  have nol : s.heap.NoLimit := e0.mod.nolimit.keeps stays
  have kinds : ∀ y ∈ ps.zip us, scope.names.lookup y.1 = some .local ∨
      (scope.names.lookup y.1 = some .cell ∧ ((cellsFrom (s.heap.objs.size + 1) scope.names []).lookup y.1).isSome = true) := by
    rintro ⟨n, v⟩ hy
    cases sc.par n (List.of_mem_zip hy).1 with
    | inl q => exact .inl q
    | inr q => exact .inr ⟨q, PySem.W.cellsFrom_some _ _ _ (.inl q)⟩
  apply codeAny_call_function room.depth (inK _ _ lk) rfl sc.co sc.gen rfl (PySem.W.codeRec_of inK hcd)
  apply binds
  apply wpAny_newFunctionEnv_cells sc.kind kinds
  intro env he s1 inside
  subst he
  constructor
  · exact nol.keeps inside.toInCall.keep
  apply codeAny_func
  obtain ⟨t, ht, hq⟩ := reading cdv rfl A outer s H vs Q E hg (room.deeper _) wish
  have J := inv_start (CX := CX) (E := E) sc room.hd e0 (many _ _ _ _ wish) vals inside
  refine wpAny_mono (ht.run [] s1 (start N vs) H _ J hq) ?_ (fun _ _ z => z)
  intro fl s2 hs
  cases fl with
  | next =>
    obtain ⟨σ2, H2, I2, q2⟩ := hs
    exact ⟨.non, H2, I2.os, I2.bare, I2.base, I2.hok, rfl, q2⟩
  | ret u =>
    obtain ⟨v2, σ2, H2, I2, rv2, q2⟩ := hs
    exact ⟨v2, H2, I2.os, I2.bare, I2.base, I2.hok, rv2, q2⟩
  | brk =>
    obtain ⟨_, _, _, z⟩ := hs
    exact (show False from z).elim
  | cont =>
    obtain ⟨_, _, _, z⟩ := hs
    exact (show False from z).elim
end
section
variable {X : Cx} {CX : CXT} {k : Nat} {f : Addr} {fd : FuncData} {ps ks : List Str} {sp : Sp} {dvs : List V} {ds : List Value} {E : XK} {x : Str} {p pos : Pos} {e : Expr} {es : List Expr} {kws : List Keyword} {t tk : TA}
theorem after_call {pins : List (Addr × Obj)} {σ : L2.St} {H : Hp} {s s' : Shared} {Q : VK} (hx : Passes CX X E) (I : Inv X pins σ H s) {r : Result} (h : CR CX X.stack X.prog X.w H s Q E r s') :
    match r with
    | .ok (.ret u) => EP X pins σ Q u s'
    | .ok _ => False
    | .error e => X.xe e s' := by
  cases r with
  | error e => exact hx pins σ H s e s' I h
  | ok fl => cases fl with
    | ret u => exact I.after h
    | next => exact h
    | brk => exact h
    | cont => exact h
theorem runG {pins : List (Addr × Obj)} {σ : L2.St} {H : Hp} {s : Shared} {Q : VK} {us : List Value} {kw : List (Str × Value)} {vs : List V} {args : List Value} (F : FnG X.prog X.w X.K X.mg X.base CX k f fd ps sp) (hg : GOk X.A) (hr : Room k X.A)
    (hx : Passes CX X E) (I : Inv X pins σ H s) (r : Vals vs args) (hb : BindsTo s fd ⟨us, kw⟩ (ps.zip args)) (h : sp vs H Q E) : wpAny (model X.prog X.w) X.A (call (.ref f) us kw) (EP X pins σ Q) X.xe s := by
  refine wpAny_call (codeAny_mono (F.goes X.A X.stack s H ⟨us, kw⟩ args vs Q E hg hr I.env0 hb r h) ?_)
  intro r s' hq
  have q := after_call hx I hq
  cases r with
  | error e => exact q
  | ok fl => cases fl with
    | ret u => exact q
    | next => exact q.elim
    | brk => exact q.elim
    | cont => exact q.elim
theorem pe_callG (F : FnG X.prog X.w X.K X.mg X.base CX k f fd ps sp) (hg : GOk X.A) (hr : Room k X.A) (hgl : Gl X x) (hm : X.mg x = some (.ref f)) (hk : PySem.W.keepIn X.K (.ref f) = true) (hb : Binds X.K fd ps ds) (hd : Vals dvs ds) (hx : Passes CX X E)
    (ha : PA X (e :: es) t) (hdb : (x == ("__debug__" : Str)) = false := by decide) (he : starEach (e :: es) X.env = (false, eval e X.env) :: starEach es X.env := by rfl)
    (hpl : (backTo pos (starEach es X.env)).any (·.1) = false := by rfl) : PE X (.Call (.Name x p) (e :: es) [] pos) (tCall sp dvs E t) := by
  constructor
  intro pins s σ H Q I h
  refine wpAny_Call_Name_kw (ld_glob I hgl hm ?_ hdb)
  refine PySem.W.callWith_K (h₀ := X.base) I.ok.mod.kin hk (thn (ha.run pos pins s σ H _ I h) ?_) he hpl
  rintro us s1 ⟨vs, H1, I1, r, q⟩
  refine ⟨I1.kIn, runG F hg hr hx I1 (r.append hd) (hb s1 us I1.kIn ?_) q⟩
  rw [← (r.append hd).length]
  exact F.many _ _ _ _ q
theorem pe_callG0 (F : FnG X.prog X.w X.K X.mg X.base CX k f fd ps sp) (hg : GOk X.A) (hr : Room k X.A) (hgl : Gl X x) (hm : X.mg x = some (.ref f)) (hk : PySem.W.keepIn X.K (.ref f) = true) (hb : Binds X.K fd ps ds) (hd : Vals dvs ds) (hx : Passes CX X E)
    (hdb : (x == ("__debug__" : Str)) = false := by decide) : PE X (.Call (.Name x p) [] [] pos) (tCall sp dvs E tNil) := by
  constructor
  intro pins s σ H Q I h
  refine wpAny_Call_Name_kw (ld_glob I hgl hm ?_ hdb)
  refine PySem.W.callWith_K0 I.kIn hk (runG (us := []) F hg hr hx I hd (hb s [] I.kIn ?_) h)
  have h' : sp ([] ++ dvs) H Q E := h
  have := F.many _ _ _ _ h'
  rw [List.nil_append] at this ⊢
  rw [← hd.length]; exact this
def perm {α : Type} (ix : List Nat) (l : List α) : List α := ix.filterMap fun i => l[i]?
theorem perm_vals {zs : List V} {ws : List Value} (r : Vals zs ws) : ∀ ix : List Nat, Vals (perm ix zs) (perm ix ws)
  | [] => .nil
  | i :: ix => by
    unfold perm
    rw [List.filterMap_cons, List.filterMap_cons]
    cases h : zs[i]? with
    | none => rw [r.none_of h]; exact perm_vals r ix
    | some x =>
      obtain ⟨u, h1, h2⟩ := r.get h
      rw [h1]
      exact .cons h2 (perm_vals r ix)
def tCallP (sp : Sp) (ix : List Nat) (E : XK) (tk : TA) : TE := fun σ H Q => tk σ H fun zs H1 => sp (perm ix zs) H1 Q E
theorem pe_callGk {ix : List Nat} (F : FnG X.prog X.w X.K X.mg X.base CX k f fd ps sp) (hg : GOk X.A) (hr : Room k X.A) (hgl : Gl X x) (hm : X.mg x = some (.ref f)) (hk : PySem.W.keepIn X.K (.ref f) = true)
    (hb : ∀ (s : Shared) (ws : List Value), (perm ix ws).length = ps.length → BindsTo s fd ⟨[], ks.zip ws⟩ (ps.zip (perm ix ws))) (hx : Passes CX X E) (hkw : PK X kws tk)
    (hall : (backToKw pos (keywordEach kws X.env)).all (·.1.isSome) = true := by rfl) (hks : (backToKw pos (keywordEach kws X.env)).filterMap (·.1) = ks := by rfl) (hdb : (x == ("__debug__" : Str)) = false := by decide)
    (hpl : ((backTo pos (starEach [] X.env)).any (·.1) || (backToKw pos (keywordEach kws X.env)).any (·.1.isNone)) = false := by rfl) : PE X (.Call (.Name x p) [] kws pos) (tCallP sp ix E tk) := by
  constructor
  intro pins s σ H Q I h
  refine wpAny_Call_Name_kw (ld_glob I hgl hm ?_ hdb)
  refine PySem.W.callWith_KW0 (h₀ := X.base) I.ok.mod.kin hk hall (thn (hkw.run pos pins s σ H _ I h) ?_) hpl
  rintro ws s1 ⟨zs, H1, I1, r, q⟩
  rw [hks]
  have r2 := perm_vals r ix
  exact ⟨I1.kIn, runG F hg hr hx I1 r2 (hb s1 ws (by rw [← r2.length]; exact F.many _ _ _ _ q)) q⟩
end
def rRepr (K : PySem.W.Frag) : List V → Hp → VK → Prop := fun xs H Q => ∃ x d, xs = [x] ∧ Dp K H x d ∧ PyData.showable d = true ∧ d.hasDict = false ∧ d.shown.length ≤ sizeLine ∧ d.depth ≤ 60 ∧ Q (.str d.shown) H
theorem call_repr {X : Cx} (hg : X.A.guards = some []) (hu : X.A.units + 64 < cLine) : CallR X (.builtin "repr") (rRepr X.K) := by
  intro pins s σ H xs us Q I r h
  obtain ⟨x, d, rfl, hd, h1, h2, h3, h4, q⟩ := h
  obtain ⟨u, rfl, rx⟩ := vals1 r
  obtain ⟨as, rd⟩ := Dp.reads I d x u hd rx
  have fin : ∀ t, EP X pins σ Q (.str d.shown t) { s with toks := s.toks + 1 } := fun t => ⟨.str d.shown, H, I.tok _, ⟨_, rfl⟩, q⟩
  cases hd with
  | non => cases rx; exact PySem.P.repr_of_none (fin _)
  | bl b =>
    cases rx
    have e : PyData.shown (.bool b) = (if b then Str.ofString "True" else Str.ofString "False") := by
      cases b <;> simp only [PyData.shown] <;> rfl
    rw [e] at fin
    exact PySem.P.repr_of_bool (fin _)
  | int i =>
    obtain ⟨t, rfl⟩ := rx
    have e : PyData.shown (.int i) = toString i := by simp only [PyData.shown]
    rw [e] at fin
    exact PySem.P.repr_of_int (by simpa [PyData.showable] using h1) (fin _)
  | str y =>
    obtain ⟨t, rfl⟩ := rx
    have e : PyData.shown (.str y) = reprText y := by simp only [PyData.shown]
    rw [e] at fin h3
    exact PySem.P.repr_of_str (fin _) h3
  | lst hs ha =>
    cases rx
    exact repr_of_reads' rd h1 (fun z => by rw [h2] at z; cases z) hg (by omega) (fun _ _ e => e) (fun h' u tk hk => ⟨.str _, H, I.kept hk, ⟨_, rfl⟩, q⟩) h3
  | tup hs ha =>
    cases rx
    exact repr_of_reads' rd h1 (fun z => by rw [h2] at z; cases z) hg (by omega) (fun _ _ e => e) (fun h' u tk hk => ⟨.str _, H, I.kept hk, ⟨_, rfl⟩, q⟩) h3
end
end AP

namespace AP
noncomputable section
open PySem PySem.Spec PyProof.Rows L2
variable [Tbls] [Gd]
inductive Out where
  | nx (s : S) | rt (v : SV) (o : List MO) | bk (s : S) | ct (s : S)
abbrev SM := S → Option Out
def Fin (Z : Zs) (M : List Addr) (H : Hp) (E : Ends) : Out → Prop
  | .nx s' => ∀ M' σ' H', Ext M H M' H' → Rel Z M' s' σ' H' → E.nx σ' H'
  | .rt r o' => ∀ M' v H', Ext M H M' H' → Rob Z M' o' H' → Rv Z M' H' v r → E.rt v H'
  | .bk s' => ∀ M' σ' H', Ext M H M' H' → Rel Z M' s' σ' H' → E.bk σ' H'
  | .ct s' => ∀ M' σ' H', Ext M H M' H' → Rel Z M' s' σ' H' → E.ct σ' H'
def SnS (t : TS) (m : SM) : Prop := ∀ Z M s σ H, Rel Z M s σ H → ∀ out, m s = some out → ∀ E : Ends, Fin Z M H E out → t E σ H
theorem Fin.ext {Z : Zs} {M M' : List Addr} {H H' : Hp} {E : Ends} {out : Out} (e : Ext M H M' H') (f : Fin Z M H E out) : Fin Z M' H' E out := by
  cases out with
  | nx s => exact fun M2 σ2 H2 e2 r => f M2 σ2 H2 (e.trans e2) r
  | bk s => exact fun M2 σ2 H2 e2 r => f M2 σ2 H2 (e.trans e2) r
  | ct s => exact fun M2 σ2 H2 e2 r => f M2 σ2 H2 (e.trans e2) r
  | rt r o => exact fun M2 v2 H2 e2 a b => f M2 v2 H2 (e.trans e2) a b
def mNext : SM := fun s => some (.nx s)
theorem ss_next : SnS tNext mNext := by
  intro Z M s σ H h out e E f
  cases e
  exact f M σ H (Ext.refl M H) h
def mSeq (a b : SM) : SM := fun s => match a s with
  | some (.nx s') => b s'
  | r => r
theorem ss_seq {t u : TS} {a b : SM} (ha : SnS t a) (hb : SnS u b) : SnS (tSeq t u) (mSeq a b) := by
  intro Z M s σ H h out e E f
  unfold mSeq at e
  split at e
  · rename_i s' es
    refine ha Z M s σ H h _ es _ fun M' σ' H' e' h' => ?_
    exact hb Z M' s' σ' H' h' out e E (f.ext e')
  · rename_i r hr
    refine ha Z M s σ H h out e _ ?_
    cases out with
    | nx s' => exact absurd e (hr s')
    | bk s' => exact f
    | ct s' => exact f
    | rt r o => exact f
def mNever : SM := fun _ => none
theorem ss_never {t : TS} : SnS t mNever := by
  intro Z M s σ H h out e
  cases e
def mDrop (a : EM) : SM := fun s => match a s with
  | none => none
  | some (_, o1) => some (.nx (s.on o1))
theorem ss_drop {te : TE} {a : EM} (ha : Sn te a) : SnS (tDrop te) (mDrop a) := by
  intro Z M s σ H h out e E f
  unfold mDrop at e
  split at e
  · cases e
  · rename_i x o1 ea
    cases e
    exact ha Z M s σ H h _ _ ea _ fun M1 v1 H1 ⟨e1, _⟩ h1 _ => f M1 σ H1 e1 h1
def mRet (a : EM) : SM := fun s => match a s with
  | none => none
  | some (x, o1) => some (.rt x o1)
theorem ss_ret {te : TE} {a : EM} (ha : Sn te a) : SnS (tRet te) (mRet a) := by
  intro Z M s σ H h out e E f
  unfold mRet at e
  split at e
  · cases e
  · rename_i x o1 ea
    cases e
    exact ha Z M s σ H h _ _ ea _ fun M1 v1 H1 ⟨e1, _⟩ h1 r1 => f M1 v1 H1 e1 h1.r r1
def mIfS (c : TM) (a b : SM) : SM := fun s => match c s with
  | none => none
  | some (true, o1) => a (s.on o1)
  | some (false, o1) => b (s.on o1)
theorem ss_if {tc : TT} {t u : TS} {c : TM} {a b : SM} (hc : SnT tc c) (ha : SnS t a) (hb : SnS u b) : SnS (tIfS tc t u) (mIfS c a b) := by
  intro Z M s σ H h out e E f
  unfold mIfS at e
  split at e
  · cases e
  · rename_i o1 ec
    refine hc Z M s σ H h _ _ ec _ fun M1 H1 ⟨e1, _⟩ h1 => ?_
    rw [if_pos rfl]
    exact ha Z M1 (s.on o1) σ H1 h1 out e E (f.ext e1)
  · rename_i o1 ec
    refine hc Z M s σ H h _ _ ec _ fun M1 H1 ⟨e1, _⟩ h1 => ?_
    rw [if_neg (by decide)]
    exact hb Z M1 (s.on o1) σ H1 h1 out e E (f.ext e1)
abbrev GM := SV → S → Option S
def SnG (g : TG) (m : GM) : Prop := ∀ Z M s σ H, Rel Z M s σ H → ∀ v sv, Rv Z M H v sv → ∀ s', m sv s = some s' → ∀ Q : L2.St → Hp → Prop, (∀ M' σ' H', Ex2 M H M' H' → Rel Z M' s' σ' H' → Q σ' H') → g v σ H Q
def mgName (i : Nat) : GM := fun v s => some { s with σ := sS (some v) s.σ i }
theorem sg_name {i : Nat} : SnG (gName i) (mgName i) := by
  intro Z M s σ H h v sv r s' e Q q
  cases e
  exact q M _ H (Ex2.refl M H) (h.put r)
abbrev GMs := List D → S → Option S
def SnGs (g : TGs) (m : GMs) : Prop := ∀ Z M s σ H, Rel Z M s σ H → ∀ vs ds, RpA (zz Z M) H vs ds → ∀ s', m ds s = some s' → ∀ Q : L2.St → Hp → Prop, (∀ M' σ' H', Ex2 M H M' H' → Rel Z M' s' σ' H' → Q σ' H') → g vs σ H Q
def mgNil : GMs := fun ds s => match ds with
  | [] => some s
  | _ => none
def mgCons (a : GM) (b : GMs) : GMs := fun ds s => match ds with
  | [] => none
  | d :: r => match a (.d d) s with
    | none => none
    | some s' => b r s'
theorem sgs_nil : SnGs gNil mgNil := by
  intro Z M s σ H h vs ds r s' e Q q
  unfold mgNil at e
  split at e
  · cases e
    cases r
    exact ⟨rfl, q M σ H (Ex2.refl M H) h⟩
  · cases e
theorem sgs_cons {t : TG} {u : TGs} {a : GM} {b : GMs} (ha : SnG t a) (hb : SnGs u b) : SnGs (gCons t u) (mgCons a b) := by
  intro Z M s σ H h vs ds r s' e Q q
  unfold mgCons at e
  split at e
  · cases e
  · rename_i d rest
    cases r with
    | cons hv hr =>
      split at e
      · cases e
      · rename_i s1 es
        refine ⟨_, _, rfl, ha Z M s σ H h _ (.d d) hv s1 es _ fun M1 σ1 H1 e1 h1 => ?_⟩
        exact hb Z M1 s1 σ1 H1 h1 _ rest (e1.mono_a hr) s' e Q fun M2 σ2 H2 e2 h2 => q M2 σ2 H2 (e1.trans e2) h2
def mgTup (n : Nat) (a : GMs) : GM := fun v s => match v with
  | .d (.tuple ds) => if ds.length = n then a ds s else none
  | _ => none
theorem sg_tup {K : PySem.W.Frag} {n : Nat} {t : TGs} {a : GMs} (ha : SnGs t a) : SnG (gTup K n t) (mgTup n a) := by
  intro Z M s σ H h v sv r s' e Q q
  unfold mgTup at e
  split at e
  · rename_i ds
    split at e
    · rename_i hl
      have r2 : Rp (zz Z M) H v (.tuple ds) := r
      cases r2 with
      | tup z ha2 ra => exact ⟨_, _, rfl, ha2.sq, by rw [ra.length]; exact hl, ha Z M s σ H h _ ds ra s' e Q q⟩
    · cases e
  · cases e
def mAsg (a : EM) (g : GM) : SM := fun s => match a s with
  | none => none
  | some (x, o1) => match g x (s.on o1) with
    | none => none
    | some s' => some (.nx s')
theorem ss_asg {te : TE} {tg : TG} {a : EM} {g : GM} (ha : Sn te a) (hg : SnG tg g) : SnS (tAsg te tg) (mAsg a g) := by
  intro Z M s σ H h out e E f
  unfold mAsg at e
  split at e
  · cases e
  · rename_i x o1 ea
    refine ha Z M s σ H h _ _ ea _ fun M1 v1 H1 ⟨e1, _⟩ h1 r1 => ?_
    split at e
    · cases e
    · rename_i s' es
      cases e
      exact hg Z M1 (s.on o1) σ H1 h1 v1 x r1 s' es _ fun M2 σ2 H2 e2 h2 => f M2 σ2 H2 (e1.trans e2.toExt) h2
def mPar (i j : Nat) (a : AM) : SM := fun s => match a s with
  | some ([x, y], o1) => some (.nx { (s.on o1) with σ := sS (some y) (sS (some x) s.σ i) j })
  | _ => none
theorem ss_par {i j : Nat} {ta : TA} {a : AM} (ha : SnA ta a) : SnS (tPar i j ta) (mPar i j a) := by
  intro Z M s σ H h out e E f
  unfold mPar at e
  split at e
  · rename_i x y o1 ea
    cases e
    refine ha Z M s σ H h _ _ ea _ fun M1 vs H1 ⟨e1, _⟩ h1 r1 => ?_
    cases r1 with
    | cons hx t =>
      cases t with
      | cons hy t2 =>
        cases t2
        exact ⟨_, _, rfl, f M1 _ H1 e1 ((h1.put hx).put hy)⟩
  · cases e
def RoC (Z : Zs) (M : List Addr) (H : Hp) (ob : HO) : MO → Prop
  | .l ds => ∃ xs, ob = .lst xs ∧ RpA (zz Z M) H xs ds
  | .k ps => ∃ kvs, ob = .dK kvs ∧ RpK (zz Z M) H kvs (kvD ps)
  | .r ks => ∃ xs, ob = .lst xs ∧ RnA M xs ks
  | .g ps => ∃ kvs, ob = .dK kvs ∧ RnK M kvs ps
theorem RoC.ro {Z : Zs} {M : List Addr} {H : Hp} {ob : HO} {r : MO} {a : Addr} (h : RoC Z M H ob r) (e : H a = some ob) : Ro Z M H a r := by
  cases r with
  | l ds => obtain ⟨xs, rfl, q⟩ := h; exact ⟨xs, e, q⟩
  | k ps => obtain ⟨xs, rfl, q⟩ := h; exact ⟨xs, e, q⟩
  | r ks => obtain ⟨xs, rfl, q⟩ := h; exact ⟨xs, e, q⟩
  | g ps => obtain ⟨xs, rfl, q⟩ := h; exact ⟨xs, e, q⟩
theorem RoC.ext {Z : Zs} {M M' : List Addr} {H H' : Hp} {ob : HO} {r : MO} (h : RoC Z M H ob r) (e : Ext M H M' H') : RoC Z M' H' ob r := by
  cases r with
  | l ds => obtain ⟨xs, rfl, q⟩ := h; exact ⟨xs, rfl, e.mono_a q⟩
  | k ps => obtain ⟨xs, rfl, q⟩ := h; exact ⟨xs, rfl, e.mono_k q⟩
  | r ks => obtain ⟨xs, rfl, q⟩ := h; obtain ⟨y, hy⟩ := e.pre; exact ⟨xs, rfl, q.pre hy⟩
  | g ps => obtain ⟨xs, rfl, q⟩ := h; obtain ⟨y, hy⟩ := e.pre; exact ⟨xs, rfl, q.pre hy⟩
theorem Ro.ext {Z : Zs} {M M' : List Addr} {H H' : Hp} {a : Addr} {r : MO} (h : Ro Z M H a r) (e : Ext M H M' H') (ha : ∀ o, H a = some o → nt o → H' a = some o) : Ro Z M' H' a r := by
  cases r with
  | l ds => obtain ⟨xs, q1, q⟩ := h; exact ⟨xs, ha _ q1 nt_lst, e.mono_a q⟩
  | k ps => obtain ⟨xs, q1, q⟩ := h; exact ⟨xs, ha _ q1 nt_dK, e.mono_k q⟩
  | r ks => obtain ⟨xs, q1, q⟩ := h; obtain ⟨y, hy⟩ := e.pre; exact ⟨xs, ha _ q1 nt_lst, q.pre hy⟩
  | g ps => obtain ⟨xs, q1, q⟩ := h; obtain ⟨y, hy⟩ := e.pre; exact ⟨xs, ha _ q1 nt_dK, q.pre hy⟩
theorem own_new {Z : Zs} {M : List Addr} {s : S} {σ : L2.St} {H : Hp} {p : Addr} {ob : HO} {r : MO} (h : Rel Z M s σ H) (hp : H p = none) (hr : RoC Z M H ob r) :
    Rel Z (M ++ [p]) { s with o := s.o ++ [r] } σ (upd H p ob) ∧ Ext M H (M ++ [p]) (upd H p ob) := by
  have n := New.upd (o := ob) hp
  have npM : p ∉ M := fun hm => h.r.zzd p (.inr hm) hp
  have npZ : ¬ Z p := fun hm => (h.r.zs p hm).ne hp
  have ex : Ext M H (M ++ [p]) (upd H p ob) := ⟨⟨[p], rfl⟩, fun a h1 h2 => by
    simp only [List.mem_append, List.mem_singleton, not_or]
    exact ⟨h1, fun e => h2.ne (by rw [e]; exact hp)⟩, fun a o _ h2 t => n.at_ a o h2 t, n.dom, n.tab⟩
  refine ⟨⟨⟨?_, fun a ha => ex.dom a (h.r.zs a ha), ?_, by simp [h.r.len], fun k a x h1 h2 => ?_, ex.tab h.r.tb⟩, fun i sv q => ?_, h.sn⟩, ex⟩
  · rw [List.nodup_append]
    refine ⟨h.r.nd, by simp, fun a ha b hb => ?_⟩
    simp only [List.mem_singleton] at hb
    subst hb
    exact fun e => npM (e ▸ ha)
  · intro a ha
    rcases List.mem_append.mp ha with q | q
    · exact h.r.nz a q
    · simp only [List.mem_singleton] at q; subst q; exact npZ
  · by_cases hk : k < M.length
    · rw [List.getElem?_append_left hk] at h1
      rw [List.getElem?_append_left (by rw [h.r.len]; exact hk)] at h2
      exact (h.r.ob k a x h1 h2).ext ex fun o q t => n.at_ a o q t
    · have e1 : k = M.length := by
        have := (List.getElem?_eq_some_iff.mp h1).1
        simp at this
        omega
      subst e1
      rw [List.getElem?_append_right (Nat.le_refl _)] at h1
      rw [List.getElem?_append_right (by rw [h.r.len]; exact Nat.le_refl _), h.r.len] at h2
      simp at h1 h2
      subst h1; subst h2
      exact (hr.ext ex).ro upd_same
  · obtain ⟨v, q1, q2⟩ := h.sl i sv q
    exact ⟨v, q1, ex.rv q2⟩
theorem nodup_get {α : Type} {l : List α} (h : l.Nodup) {i j : Nat} {x : α} (a : l[i]? = some x) (b : l[j]? = some x) : i = j := by
  obtain ⟨h1, e1⟩ := List.getElem?_eq_some_iff.mp a
  obtain ⟨h2, e2⟩ := List.getElem?_eq_some_iff.mp b
  exact (List.getElem_inj h).mp (e1.trans e2.symm)
theorem own_mut {Z : Zs} {M : List Addr} {s : S} {σ : L2.St} {H : Hp} {k : Nat} {a : Addr} {ob : HO} {r : MO} (h : Rel Z M s σ H) (hk : M[k]? = some a) (hr : RoC Z M H ob r) :
    Rel Z M { s with o := s.o.set k r } σ (upd H a ob) ∧ Ext M H M (upd H a ob) := by
  have ha : a ∈ M := List.mem_of_getElem? hk
  have kl : k < s.o.length := by rw [h.r.len]; exact (List.getElem?_eq_some_iff.mp hk).1
  have old : ∃ o, H a = some o ∧ nt o ∧ ∀ φ, o ≠ .ext φ := by
    have q := h.r.ob k a _ hk (List.getElem?_eq_getElem kl)
    cases e2 : s.o[k] with
    | l ds => rw [e2] at q; obtain ⟨xs, q, _⟩ := q; exact ⟨_, q, nt_lst, fun _ z => nomatch z⟩
    | k ps => rw [e2] at q; obtain ⟨xs, q, _⟩ := q; exact ⟨_, q, nt_dK, fun _ z => nomatch z⟩
    | r ks => rw [e2] at q; obtain ⟨xs, q, _⟩ := q; exact ⟨_, q, nt_lst, fun _ z => nomatch z⟩
    | g ps => rw [e2] at q; obtain ⟨xs, q, _⟩ := q; exact ⟨_, q, nt_dK, fun _ z => nomatch z⟩
  obtain ⟨o0, q0, q1, q2⟩ := old
  have ex : Ext M H M (upd H a ob) := ⟨⟨[], by simp⟩, fun b h1 _ => h1, fun b o h1 h2 _ => by
    have nb : b ≠ a := fun e => by subst e; exact h1 ha
    rw [upd_ne nb]; exact h2, fun b hb => by
    by_cases e : b = a
    · subst e
      refine ⟨ob, upd_same, ?_⟩
      cases r with
      | l ds => obtain ⟨xs, z, _⟩ := hr; rw [z]; exact nt_lst
      | k ps => obtain ⟨xs, z, _⟩ := hr; rw [z]; exact nt_dK
      | r ks => obtain ⟨xs, z, _⟩ := hr; rw [z]; exact nt_lst
      | g ps => obtain ⟨xs, z, _⟩ := hr; rw [z]; exact nt_dK
    · obtain ⟨o, e1, e2⟩ := hb
      exact ⟨o, by rw [upd_ne e]; exact e1, e2⟩, fun t p hp => tab_upd q0 q1 q2 (t p hp)⟩
  refine ⟨⟨⟨h.r.nd, fun b hb => ex.dom b (h.r.zs b hb), h.r.nz, by simp [h.r.len], fun j b x h1 h2 => ?_, ex.tab h.r.tb⟩, fun i sv q => ?_, h.sn⟩, ex⟩
  · by_cases hj : j = k
    · subst hj
      rw [hk] at h1
      cases h1
      have hl : j < s.o.length := by rw [h.r.len]; exact (List.getElem?_eq_some_iff.mp hk).1
      have h2' : (s.o.set j r)[j]? = some x := h2
      rw [List.getElem?_set_self hl] at h2'
      cases h2'
      exact (hr.ext ex).ro upd_same
    · have h2' : (s.o.set k r)[j]? = some x := h2
      rw [List.getElem?_set_ne (Ne.symm hj)] at h2'
      have nab : b ≠ a := fun e => hj (nodup_get h.r.nd h1 (e ▸ hk))
      exact (h.r.ob j b x h1 h2').ext ex fun o q _ => by rw [upd_ne nab]; exact q
  · obtain ⟨v, q1, q2⟩ := h.sl i sv q
    exact ⟨v, q1, ex.rv q2⟩
def frz : MO → D
  | .l ds => .list ds
  | .k ps => .dict (kvD ps)
  | _ => .none
def flat : MO → Bool
  | .l _ => true
  | .k _ => true
  | _ => false
def refs1 (n : Nat) : MO → Bool
  | .r ks => ks.all fun k => decide (k < n)
  | .g ps => ps.all fun p => decide (p.2 < n)
  | _ => true
def refsB : Nat → List MO → Bool
  | _, [] => true
  | n, x :: r => refs1 n x && refsB n r
theorem refsB_get : ∀ {o : List MO} {n k : Nat} {x : MO}, refsB n o = true → o[k]? = some x → refs1 n x = true
  | [], _, _, _, _, h => by simp at h
  | y :: r, n, 0, x, h, e => by
    simp only [refsB, Bool.and_eq_true] at h
    simp at e; subst e; exact h.1
  | y :: r, n, k + 1, x, h, e => by
    simp only [refsB, Bool.and_eq_true] at h
    exact refsB_get h.2 (by simpa using e)
theorem RnA.less {M : List Addr} {p : Addr} : ∀ {vs : List V} {ks : List Nat}, RnA (M ++ [p]) vs ks → (ks.all fun k => decide (k < M.length)) = true → RnA M vs ks
  | _, _, .nil, _ => .nil
  | _, _, .cons h r, e => by
    simp only [List.all_cons, Bool.and_eq_true, decide_eq_true_eq] at e
    rw [List.getElem?_append_left e.1] at h
    exact .cons h (RnA.less r e.2)
theorem RnK.less {M : List Addr} {p : Addr} : ∀ {vs : List (Key × V)} {ks : List (Key × Nat)}, RnK (M ++ [p]) vs ks → (ks.all fun k => decide (k.2 < M.length)) = true → RnK M vs ks
  | _, _, .nil, _ => .nil
  | _, _, .cons h r, e => by
    simp only [List.all_cons, Bool.and_eq_true, decide_eq_true_eq] at e
    rw [List.getElem?_append_left e.1] at h
    exact .cons h (RnK.less r e.2)
theorem own_end {Z : Zs} {M : List Addr} {o : List MO} {H : Hp} {p : Addr} {r : MO} (h : Rob Z (M ++ [p]) (o ++ [r]) H) (fl : flat r = true) (rf : refsB o.length o = true) : Rob Z M o H ∧ Rp (zz Z M) H (.ref p) (frz r) := by
  have hl : o.length = M.length := by
    have := h.len
    simp at this
    exact this
  have npM : p ∉ M := fun hm => by
    have := (List.nodup_append.mp h.nd).2.2 p hm p (by simp)
    exact this rfl
  have npZ : ¬ Z p := h.nz p (by simp)
  have k0 : ∀ (a : Addr) (u : HO), ¬ zz Z (M ++ [p]) a → H a = some u → nt u → ¬ zz Z M a ∧ H a = some u := fun a u z e _ =>
    ⟨fun y => z (y.elim .inl fun q => .inr (List.mem_append_left _ q)), e⟩
  have ro : ∀ {a : Addr} {x : MO}, refs1 M.length x = true → Ro Z (M ++ [p]) H a x → Ro Z M H a x := fun {a x} rx q => by
    cases x with
    | l ds => obtain ⟨xs, q1, q2⟩ := q; exact ⟨xs, q1, q2.mono k0⟩
    | k ps => obtain ⟨xs, q1, q2⟩ := q; exact ⟨xs, q1, q2.mono k0⟩
    | r ks => obtain ⟨xs, q1, q2⟩ := q; exact ⟨xs, q1, q2.less rx⟩
    | g ps => obtain ⟨xs, q1, q2⟩ := q; exact ⟨xs, q1, q2.less rx⟩
  refine ⟨⟨(List.nodup_append.mp h.nd).1, h.zs, fun a ha => h.nz a (List.mem_append_left _ ha), hl, fun k a x h1 h2 => ?_, h.tb⟩, ?_⟩
  · have hk : k < M.length := (List.getElem?_eq_some_iff.mp h1).1
    exact ro (refsB_get (hl ▸ rf) h2) (h.ob k a x (by rw [List.getElem?_append_left hk]; exact h1) (by rw [List.getElem?_append_left (by rw [hl]; exact hk)]; exact h2))
  · have q := ro (by cases r <;> first | rfl | cases fl) (h.ob M.length p r (by rw [List.getElem?_append_right (Nat.le_refl _)]; simp) (by rw [List.getElem?_append_right (by rw [hl]; exact Nat.le_refl _), hl]; simp))
    have nz : ¬ zz Z M p := fun y => y.elim npZ npM
    cases r with
    | l ds => obtain ⟨xs, q1, q2⟩ := q; exact .lst nz q1 q2
    | k ps => obtain ⟨xs, q1, q2⟩ := q; exact .dct nz (.inl q1) q2
    | r ks => cases fl
    | g ps => cases fl
abbrev NM := S → Option (MO × List MO)
def SnN (t : TE) (m : NM) : Prop := ∀ Z M s σ H, Rel Z M s σ H → ∀ r o', m s = some (r, o') → ∀ Q : VK,
  (∀ M' p H', M' = M → Ext M H (M' ++ [p]) H' → Rel Z (M' ++ [p]) { s with o := o' ++ [r] } σ H' → Q (.ref p) H') → t σ H Q
theorem Ext.init {M M' : List Addr} {H H' : Hp} {p : Addr} (hl : M' = M) (e : Ext M H (M' ++ [p]) H') : Ext M H M' H' := by
  obtain ⟨_, u, k, d, t⟩ := e
  exact ⟨⟨[], by rw [hl]; simp⟩, fun a h1 h2 y => u a h1 h2 (List.mem_append_left _ y), k, d, t⟩
theorem Rel.ended {Z : Zs} {M M' : List Addr} {s : S} {σ : L2.St} {H H' : Hp} {p : Addr} {o' : List MO} {r : MO} (h : Rel Z M s σ H) (hl : M' = M) (e : Ext M H (M' ++ [p]) H') (g : Rel Z (M' ++ [p]) { s with o := o' ++ [r] } σ H') (fl : flat r = true) (rf : refsB o'.length o' = true) :
    Rel Z M' (s.on o') σ H' ∧ Rp (zz Z M') H' (.ref p) (frz r) := by
  obtain ⟨q1, q2⟩ := own_end g.r fl rf
  exact ⟨h.ext_on (e.init hl) q1, q2⟩
def mDat (m : NM) : EM := fun s => match m s with
  | none => none
  | some (r, o') => if (flat r && refsB o'.length o') = true then some (.d (frz r), o') else none
theorem sn_dat {t : TE} {m : NM} (hm : SnN t m) : Sn t (mDat m) := by
  intro Z M s σ H h w o' e Q q
  unfold mDat at e
  split at e
  · cases e
  · rename_i r o1 er
    split at e
    · rename_i hc
      rw [Bool.and_eq_true] at hc
      cases e
      refine hm Z M s σ H h _ _ er _ fun M' p H' hl e' h' => ?_
      obtain ⟨g1, g2⟩ := h.ended hl e' h' hc.1 hc.2
      exact q M' _ H' ⟨e'.init hl, hl⟩ g1 g2
    · cases e
def mOwn (m : NM) (i : Nat) : SM := fun s => match m s with
  | none => none
  | some (r, o') => some (.nx ⟨sS (some (.m o'.length)) s.σ i, o' ++ [r]⟩)
theorem ss_own {te : TE} {m : NM} {i : Nat} (hm : SnN te m) : SnS (tAsg te (gName i)) (mOwn m i) := by
  intro Z M s σ H h out e E f
  unfold mOwn at e
  split at e
  · cases e
  · rename_i r o' er
    cases e
    refine hm Z M s σ H h _ _ er _ fun M' p H' hl e' h' => ?_
    have hlen : o'.length = M'.length := by
      have := h'.r.len
      simp at this
      exact this
    have h2 : Rel Z (M' ++ [p]) ⟨sS (some (.m o'.length)) s.σ i, o' ++ [r]⟩ (σ.set i (some (.ref p))) H' := h'.put (sv := .m o'.length) ⟨p, by rw [hlen, List.getElem?_append_right (Nat.le_refl _)]; simp, rfl⟩
    exact f (M' ++ [p]) _ H' e' h2
def mLstN (a : AM) : NM := fun s => match a s with
  | none => none
  | some (xs, o1) => match dats xs with
    | none => none
    | some ds => if ds.length ≤ 100000 then some (.l ds, o1) else none
theorem sn_lstN {ta : TA} {a : AM} (ha : SnA ta a) : SnN (tLst ta) (mLstN a) := by
  intro Z M s σ H h w o' e Q q
  unfold mLstN at e
  split at e
  · cases e
  · rename_i xs o1 ea
    refine ha Z M s σ H h _ _ ea _ fun M1 vs H1 ⟨e1, m1⟩ h1 r1 => ?_
    split at e
    · cases e
    · rename_i ds hd
      split at e
      · rename_i hl
        cases e
        have r2 := dats_ok r1 hd
        refine ⟨small_line (by rw [r2.length]; exact hl), fun p hp => ?_⟩
        obtain ⟨g1, g2⟩ := own_new (ob := .lst vs) (r := .l ds) h1 hp ⟨vs, rfl, r2⟩
        exact q M1 p _ m1 (e1.trans g2) g1
      · cases e
def mListN (a : EM) : NM := fun s => match a s with
  | none => none
  | some (x, o1) => match vw o1 x with
    | some (.list ds) => some (.l ds, o1)
    | some (.tuple ds) => some (.l ds, o1)
    | _ => none
theorem sn_listN {K : PySem.W.Frag} {ta : TE} {a : EM} (ha : Sn ta a) : SnN (tCB (fun xs H Q => ∃ p ys, xs = [.ref p] ∧ (SqL K H p ys ∨ SqT K H p ys) ∧ ∀ l, H l = none → Q (.ref l) (upd H l (.lst ys))) (tCons ta tNil)) (mListN a) := by
  intro Z M s σ H h w o' e Q q
  unfold mListN at e
  split at e
  · cases e
  · rename_i x o1 ea
    refine ha Z M s σ H h _ _ ea _ fun M1 v1 H1 ⟨e1, m1⟩ h1 r1 => ?_
    split at e
    · rename_i ds hd
      cases e
      obtain ⟨b, xs, rfl, hb, rb⟩ := vw_ok h1.r r1 hd
      refine ⟨b, xs, rfl, .inl (SqL.of hb), fun p hp => ?_⟩
      obtain ⟨g1, g2⟩ := own_new (ob := .lst xs) (r := .l ds) h1 hp ⟨xs, rfl, rb⟩
      exact q M1 p _ m1 (e1.trans g2) g1
    · rename_i ds hd
      cases e
      obtain ⟨b, xs, rfl, hb, rb, _⟩ := vw_ok h1.r r1 hd
      refine ⟨b, xs, rfl, .inr (hb.sq), fun p hp => ?_⟩
      obtain ⟨g1, g2⟩ := own_new (ob := .lst xs) (r := .l ds) h1 hp ⟨xs, rfl, rb⟩
      exact q M1 p _ m1 (e1.trans g2) g1
    · cases e
def mApp (a b : EM) : SM := fun s => match a s with
  | some (.m k, o1) => (match o1[k]? with
    | some (.l _) => (match b (s.on o1) with
      | some (.d d, o2) => (match o2[k]? with
        | some (.l ds) => if ds.length < 100000 then some (.nx (s.on (o2.set k (.l (ds ++ [d]))))) else none
        | _ => none)
      | _ => none)
    | _ => none)
  | _ => none
theorem Ext.at {M M' : List Addr} {H H' : Hp} {k : Nat} {a : Addr} (e : Ext M H M' H') (h : M[k]? = some a) : M'[k]? = some a := by
  obtain ⟨⟨x, hx⟩, _, _, _, _⟩ := e
  rw [hx, List.getElem?_append_left (List.getElem?_eq_some_iff.mp h).1]
  exact h
theorem rpA_snoc {Z : Zs} {H : Hp} {xs : List V} {ds : List D} {v : V} {d : D} (r : RpA Z H xs ds) (h : Rp Z H v d) : RpA Z H (xs ++ [v]) (ds ++ [d]) := r.append (.cons h .nil)
theorem ss_app {K : PySem.W.Frag} {ta tb : TE} {a b : EM} (ha : Sn ta a) (hb : Sn tb b) : SnS (tDrop (tBM K "list" rAppend ta (tCons tb tNil))) (mApp a b) := by
  intro Z M s σ H h out e E f
  unfold mApp at e
  split at e
  · rename_i k o1 ea
    refine ha Z M s σ H h _ _ ea _ fun M1 v1 H1 ⟨e1, _⟩ h1 r1 => ?_
    obtain ⟨p, hp, rfl⟩ := r1
    split at e
    · rename_i ds1 hk1
      obtain ⟨xs1, hx1, _⟩ := h1.r.ob k p _ hp hk1
      split at e
      · rename_i d o2 eb
        split at e
        · rename_i ds hk
          split at e
          · rename_i hl
            cases e
            refine ⟨.inl ⟨rfl, _, SqL.of hx1⟩, ?_⟩
            refine hb Z M1 (s.on o1) σ H1 h1 _ _ eb _ fun M2 v2 H2 ⟨e2, _⟩ h2 r2 => ?_
            have hp2 := e2.at hp
            obtain ⟨xs, hx, rx⟩ := h2.r.ob k p _ hp2 hk
            refine ⟨p, xs, v2, rfl, rfl, hx, Nat.lt_of_lt_of_le (by rw [rx.length]; exact hl) (small_line (Nat.le_refl _)), ?_⟩
            obtain ⟨g1, g2⟩ := own_mut (ob := .lst (xs ++ [v2])) (r := .l (ds ++ [d])) h2 hp2 ⟨_, rfl, rpA_snoc rx r2⟩
            exact f M2 σ _ ((e1.trans e2).trans g2) g1
          · cases e
        · cases e
      · cases e
    · cases e
  · cases e
def putD (ps : List (Key × D)) (k : Key) (d : D) : List (Key × D) := match ps with
  | [] => [(k, d)]
  | (a, b) :: r => if a = k then (a, d) :: r else (a, b) :: putD r k d
def mPut (v a b : EM) : SM := fun s => match v s with
  | some (.d d, o1) => (match a (s.on o1) with
    | some (.m k, o2) => (match b (s.on o2) with
      | some (.d dk, o3) => (match toKey dk, o3[k]? with
        | some key, some (.k ps) => if ps.length < 100000 ∧ (ps.map (·.1)).Nodup then some (.nx (s.on (o3.set k (.k (putD ps key d))))) else none
        | _, _ => none)
      | _ => none)
    | _ => none)
  | _ => none
theorem putK_cons_eq {k : Key} {v w : V} {r : List (Key × V)} (nd : k ∉ r.map (·.1)) : putK ((k, w) :: r) k v = (k, v) :: r := by
  unfold putK
  have e1 : (((k, w) :: r).any fun kv => decide (kv.1 = k)) = true := by simp
  rw [if_pos e1]
  simp only [List.map_cons, if_true]
  congr 1
  have : ∀ p ∈ r, (if p.1 = k then (p.1, v) else p) = p := fun p hp => by
    rw [if_neg]
    intro e
    exact nd (List.mem_map.mpr ⟨p, hp, e⟩)
  rw [List.map_congr_left this]
  simp
theorem putK_cons_ne {a k : Key} {v w : V} {r : List (Key × V)} (h : ¬ a = k) : putK ((a, w) :: r) k v = (a, w) :: putK r k v := by
  unfold putK
  by_cases hr : (r.any fun kv => decide (kv.1 = k)) = true
  · rw [if_pos hr, if_pos (by simp [hr]), List.map_cons, if_neg h]
  · rw [if_neg hr, if_neg (by simp only [List.any_cons, decide_eq_false h, Bool.false_or]; exact hr)]
    rfl
theorem rpK_keys {Z : Zs} {H : Hp} : ∀ {kvs : List (Key × V)} {ps : List (Key × D)}, RpK Z H kvs (kvD ps) → kvs.map (·.1) = ps.map (·.1)
  | [], [], _ => rfl
  | _ :: _, [], r => by simp [kvD] at r; cases r
  | [], _ :: _, r => by simp [kvD] at r; cases r
  | (k, v) :: kvs, (k', d) :: ps, r => by
    have e : kvD ((k', d) :: ps) = (kD k', d) :: kvD ps := rfl
    rw [e] at r
    generalize hk : kD k' = kk at r
    cases r with
    | cons h t =>
      have := kD_inj hk
      subst this
      simp [rpK_keys t]
theorem rpK_put {Z : Zs} {H : Hp} {k : Key} {v : V} {d : D} (hv : Rp Z H v d) : ∀ {kvs : List (Key × V)} {ps : List (Key × D)}, RpK Z H kvs (kvD ps) → (ps.map (·.1)).Nodup → RpK Z H (putK kvs k v) (kvD (putD ps k d))
  | [], [], _, _ => .cons hv .nil
  | _ :: _, [], r, _ => by simp [kvD] at r; cases r
  | [], _ :: _, r, _ => by simp [kvD] at r; cases r
  | (a, w) :: kvs, (a', e) :: ps, r, nd => by
    have h0 : kvD ((a', e) :: ps) = (kD a', e) :: kvD ps := rfl
    rw [h0] at r
    generalize hk : kD a' = kk at r
    cases r with
    | cons h t =>
      have := kD_inj hk
      subst this
      simp only [List.map_cons, List.nodup_cons] at nd
      by_cases hak : a' = k
      · subst hak
        rw [putK_cons_eq (by rw [rpK_keys t]; exact nd.1)]
        simp only [putD, if_true]
        exact .cons hv t
      · rw [putK_cons_ne hak]
        simp only [putD, if_neg hak]
        exact .cons h (rpK_put hv t nd.2)
theorem ss_put {td ty tv : TE} {v a b : EM} (hv : Sn tv v) (ha : Sn td a) (hb : Sn ty b) : SnS (sDPut td ty tv) (mPut v a b) := by
  intro Z M s σ H h out e E f
  unfold mPut at e
  split at e
  · rename_i d o1 ev
    refine hv Z M s σ H h _ _ ev _ fun M1 v1 H1 ⟨e1, _⟩ h1 r1 => ?_
    split at e
    · rename_i k o2 ea
      refine ha Z M1 (s.on o1) σ H1 h1 _ _ ea _ fun M2 v2 H2 ⟨e2, _⟩ h2 r2 => ?_
      obtain ⟨p, hp, rfl⟩ := r2
      split at e
      · rename_i dk o3 eb
        refine hb Z M2 (s.on o2) σ H2 h2 _ _ eb _ fun M3 v3 H3 ⟨e3, _⟩ h3 r3 => ?_
        split at e
        · rename_i key ps hkey hk
          split at e
          · rename_i hl
            cases e
            have hp3 := e3.at hp
            obtain ⟨kvs, hx, rx⟩ := h3.r.ob k p _ hp3 hk
            have hv3 : v3 = kV key := key_rt (Rp.rt r3) hkey
            subst hv3
            have hlen : kvs.length = ps.length := by rw [rx.length]; simp [kvD]
            obtain ⟨g1, g2⟩ := own_mut (ob := .dK (putK kvs key v1)) (r := .k (putD ps key d)) h3 hp3 ⟨_, rfl, rpK_put ((e2.trans e3).mono_d r1) rx hl.2⟩
            exact ⟨p, _, rfl, DPut.k hx (Nat.lt_of_lt_of_le (by rw [hlen]; exact hl.1) (small_line (Nat.le_refl _))), f M3 σ _ (((e1.trans e2).trans e3).trans g2) g1⟩
          · cases e
        · cases e
      · cases e
    · cases e
  · cases e
end
end AP

namespace AP
noncomputable section
open PySem PySem.Spec PyProof.Rows L2 RZ
variable [Tbls] [Gd]
def Src (Z : Zs) (M : List Addr) (H : Hp) (J : It) (items : List D) : Prop :=
  ∃ (G : Hp → Prop) (Y : Nat → Hp → V → Hp → Prop), L2.Walk J items.length G Y ∧ (∀ M2 H2, Ext M H M2 H2 → G H2) ∧
    ∀ i H2 x H3 M2, Ext M H M2 H2 → (∀ a, zz Z M2 a → H2 a ≠ none) → i < items.length → Y i H2 x H3 → New H2 H3 ∧ ∃ d, items[i]? = some d ∧ Rp (zz Z M2) H3 x d
abbrev IM := S → Option (List D × List MO)
def SnI (wi : TI) (m : IM) : Prop := ∀ Z M s σ H, Rel Z M s σ H → ∀ items o', m s = some (items, o') → ∀ R : It → Hp → Prop,
  (∀ J H', Ext M H M H' → Rel Z M (s.on o') σ H' → Src Z M H' J items → R J H') → wi σ H R
theorem TupAt.ext {Z : Zs} {M M' : List Addr} {H H' : Hp} {a : Addr} {xs : List V} {w : Bool} (h : TupAt H a xs w) (e : Ext M H M' H') (z : ¬ zz Z M a) : TupAt H' a xs w := h.mono fun o q n => e.keep a o (fun y => z (.inr y)) q n
theorem Ext.keepz {Z : Zs} {M M' : List Addr} {H H' : Hp} (e : Ext M H M' H') {a : Addr} {o : HO} (z : ¬ zz Z M a) (h : H a = some o) (t : nt o := by first | exact nt_lst | exact nt_tup | exact nt_dK) : H' a = some o := e.keep a o (fun y => z (.inr y)) h t
def seqOf : SV → Option (List D)
  | .d (.list ds) => some ds
  | .d (.tuple ds) => some ds
  | _ => none
def mItems (a : EM) : IM := fun s => match a s with
  | none => none
  | some (x, o1) => match seqOf x with
    | none => none
    | some ds => some (ds, o1)
theorem src_list {K : PySem.W.Frag} {Z : Zs} {M : List Addr} {H : Hp} {a : Addr} {xs : List V} {ds : List D} (z : ¬ zz Z M a) (h : H a = some (.lst xs)) (r : RpA (zz Z M) H xs ds) : Src Z M H (Itl K a) ds := by
  refine ⟨_, _, by rw [← r.length]; exact L2.walk_list (xs := xs), fun M2 H2 e => SqL.of (e.keepz z h), fun i H2 x H3 M2 e _ _ y => ?_⟩
  obtain ⟨rfl, hx⟩ := y
  obtain ⟨d, h1, h2⟩ := (e.mono_a r).getV hx
  exact ⟨New.refl _, d, h1, h2⟩
theorem src_tup {K : PySem.W.Frag} {Z : Zs} {M : List Addr} {H : Hp} {a : Addr} {xs : List V} {ds : List D} {w : Bool} (z : ¬ zz Z M a) (h : TupAt H a xs w) (r : RpA (zz Z M) H xs ds) : Src Z M H (Itt K a) ds := by
  refine ⟨_, _, by rw [← r.length]; exact L2.walk_tup (xs := xs), fun M2 H2 e => (h.ext e z).sq, fun i H2 x H3 M2 e _ _ y => ?_⟩
  obtain ⟨rfl, hx⟩ := y
  obtain ⟨d, h1, h2⟩ := (e.mono_a r).getV hx
  exact ⟨New.refl _, d, h1, h2⟩
def iSeq (K : PySem.W.Frag) (te : TE) : TI := fun σ H R => iList K te σ H R ∨ iTup K te σ H R
theorem pi_or {X : Cx} {tg e : Expr} {w w' : TI} (h : PI X tg e w) (h' : PI X tg e w') : PI X tg e (fun σ H R => w σ H R ∨ w' σ H R) :=
  ⟨fun pins s σ H R I q => q.elim (h.run pins s σ H R I) (h'.run pins s σ H R I)⟩
theorem si_seq {K : PySem.W.Frag} {te : TE} {a : EM} (ha : Sn te a) : SnI (iSeq K te) (mItems a) := by
  intro Z M s σ H h items o' e R q
  unfold mItems at e
  split at e
  · cases e
  · rename_i x o1 ea
    split at e
    · cases e
    · rename_i ds hd
      cases e
      unfold seqOf at hd
      split at hd
      · cases hd
        refine .inl (ha Z M s σ H h _ _ ea _ fun M1 v1 H1 ⟨e1, m1⟩ h1 r1 => ?_)
        subst m1
        have r2 : Rp (zz Z _) H1 v1 (.list items) := r1
        cases r2 with
        | lst z hx rx => exact ⟨_, rfl, ⟨_, SqL.of hx⟩, q _ H1 e1 h1 (src_list z hx rx)⟩
      · cases hd
        refine .inr (ha Z M s σ H h _ _ ea _ fun M1 v1 H1 ⟨e1, m1⟩ h1 r1 => ?_)
        subst m1
        have r2 : Rp (zz Z _) H1 v1 (.tuple items) := r1
        cases r2 with
        | tup z hx rx => exact ⟨_, rfl, ⟨_, hx.sq⟩, q _ H1 e1 h1 (src_tup z hx rx)⟩
      · cases hd
def mSigns (a : EM) : IM := fun s => match a s with
  | some (.d (.str z), o1) => some (z.cps.toList.map fun c => PyData.str ⟨#[c]⟩, o1)
  | _ => none
theorem si_str {te : TE} {a : EM} (ha : Sn te a) : SnI (iStr te) (mSigns a) := by
  intro Z M s σ H h items o' e R q
  unfold mSigns at e
  split at e
  · rename_i z o1 ea
    cases e
    refine ha Z M s σ H h _ _ ea _ fun M1 v1 H1 ⟨e1, m1⟩ h1 r1 => ?_
    subst m1
    have r2 : Rp (zz Z _) H1 v1 (.str z) := r1
    cases r2
    refine ⟨z, rfl, q _ H1 e1 h1 ?_⟩
    refine ⟨_, _, by rw [List.length_map, Array.length_toList]; exact L2.walk_str (z := z), fun _ _ _ => trivial, fun i H2 x H3 M2 e _ _ y => ?_⟩
    obtain ⟨rfl, c, hc, rfl⟩ := y
    exact ⟨New.refl _, _, by rw [List.getElem?_map]; simp [hc], .str _⟩
  · cases e
def zipD : List D → List D → List D
  | x :: xs, y :: ys => .tuple [x, y] :: zipD xs ys
  | _, _ => []
theorem zipD_len : ∀ xs ys : List D, (zipD xs ys).length = min xs.length ys.length
  | [], _ => by simp [zipD]
  | _ :: _, [] => by simp [zipD]
  | x :: xs, y :: ys => by simp [zipD, zipD_len xs ys]
theorem zipD_get : ∀ (xs ys : List D) (i : Nat) (d e : D), xs[i]? = some d → ys[i]? = some e → (zipD xs ys)[i]? = some (.tuple [d, e])
  | [], _, _, _, _, h, _ => by simp at h
  | _ :: _, [], _, _, _, _, h => by simp at h
  | x :: xs, y :: ys, 0, d, e, h, h2 => by simp at h h2; subst h; subst h2; rfl
  | x :: xs, y :: ys, i + 1, d, e, h, h2 => by
    simp only [zipD, List.getElem?_cons_succ] at *
    exact zipD_get xs ys i d e h h2
theorem pair_of {Z : Zs} {M : List Addr} {H : Hp} {xs : List V} {ds : List D} (r : RpA (zz Z M) H xs ds) (i : Nat) (x : V) (h : xs[i]? = some x) : ∃ d, ds[i]? = some d ∧ ∀ M2 H2, Ext M H M2 H2 → Rp (zz Z M2) H2 x d := by
  obtain ⟨d, h1, h2⟩ := r.getV h
  exact ⟨d, h1, fun M2 H2 e => e.mono_d h2⟩
def enumD (k : Int) : List D → List D
  | [] => []
  | x :: xs => .tuple [.int k, x] :: enumD (k + 1) xs
theorem enumD_len : ∀ (xs : List D) (k : Int), (enumD k xs).length = xs.length
  | [], _ => rfl
  | x :: xs, k => by simp [enumD, enumD_len xs]
theorem enumD_get : ∀ (xs : List D) (k : Int) (i : Nat) (d : D), xs[i]? = some d → (enumD k xs)[i]? = some (.tuple [.int (k + i), d])
  | [], _, _, _, h => by simp at h
  | x :: xs, k, 0, d, h => by simp at h; subst h; simp [enumD]
  | x :: xs, k, i + 1, d, h => by
    simp only [enumD, List.getElem?_cons_succ] at *
    rw [enumD_get xs (k + 1) i d h]
    congr 4
    omega
def loopM (g : GM) (b : SM) : List D → SM
  | [], s => some (.nx s)
  | d :: r, s => match g (.d d) s with
    | none => none
    | some s1 => match b s1 with
      | none => none
      | some (.nx s2) => loopM g b r s2
      | some (.ct s2) => loopM g b r s2
      | some (.bk s2) => some (.nx s2)
      | some (.rt v o) => some (.rt v o)
def mFor (im : IM) (g : GM) (b : SM) : SM := fun s => match im s with
  | none => none
  | some (items, o1) => loopM g b items (s.on o1)
theorem ss_for {wi : TI} {tg : TG} {tb : TS} {im : IM} {g : GM} {b : SM} (hi : SnI wi im) (hg : SnG tg g) (hb : SnS tb b) : SnS (tFor wi tg tb) (mFor im g b) := by
  intro Z M s σ H h out e E f
  unfold mFor at e
  split at e
  · cases e
  · rename_i items o1 ei
    refine hi Z M s σ H h items o1 ei _ fun J H1 e1 h1 src => ?_
    obtain ⟨G, Y, w, hG, hY⟩ := src
    refine L2.for_it w (fun i σ2 H2 => ∃ M2 s2, Ext M H1 M2 H2 ∧ Rel Z M2 s2 σ2 H2 ∧ loopM g b (items.drop i) s2 = some out) ⟨M, _, Ext.refl M H1, h1, e⟩ (fun i σ2 H2 _ ⟨M2, s2, x, _⟩ => hG M2 H2 x) ?_ ?_
    · rintro i x σ2 H2 H3 hin ⟨M2, s2, e2, h2, l2⟩ hy
      obtain ⟨nw, d, hd, rd⟩ := hY i H2 x H3 M2 e2 h2.r.zzd hin hy
      have edrop : items.drop i = d :: items.drop (i + 1) := by
        rw [List.drop_eq_getElem_cons hin]
        congr 1
        have := List.getElem?_eq_getElem hin
        rw [hd] at this
        exact (Option.some.inj this).symm
      rw [edrop] at l2
      unfold loopM at l2
      split at l2
      · cases l2
      · rename_i s3 es
        refine hg Z M2 s2 σ2 H3 (h2.new nw) x (.d d) rd s3 es _ fun M4 σ4 H4 e4 h4 => ?_
        have e24 : Ext M H1 M4 H4 := (e2.trans (Ext.new nw)).trans e4.toExt
        have e04 : Ext M H M4 H4 := e1.trans e24
        split at l2
        · cases l2
        · rename_i s5 eb
          refine hb Z M4 s3 σ4 H4 h4 _ eb _ ?_
          exact fun M6 σ6 H6 e6 h6 => ⟨M6, s5, e24.trans e6, h6, l2⟩
        · rename_i s5 eb
          refine hb Z M4 s3 σ4 H4 h4 _ eb _ ?_
          exact fun M6 σ6 H6 e6 h6 => ⟨M6, s5, e24.trans e6, h6, l2⟩
        · rename_i s5 eb
          cases l2
          refine hb Z M4 s3 σ4 H4 h4 _ eb _ ?_
          exact fun M6 σ6 H6 e6 h6 => f M6 σ6 H6 (e04.trans e6) h6
        · rename_i v5 o5 eb
          cases l2
          refine hb Z M4 s3 σ4 H4 h4 _ eb _ ?_
          exact fun M6 v6 H6 e6 h6 r6 => f M6 v6 H6 (e04.trans e6) h6 r6
    · rintro σ2 H2 ⟨M2, s2, e2, h2, l2⟩
      rw [List.drop_length] at l2
      unfold loopM at l2
      cases l2
      exact f M2 σ2 H2 (e1.trans e2) h2
def whileM (c : TM) (b : SM) : Nat → SM
  | 0, _ => none
  | n + 1, s => match c s with
    | none => none
    | some (false, o1) => some (.nx (s.on o1))
    | some (true, o1) => match b (s.on o1) with
      | none => none
      | some (.nx s2) => whileM c b n s2
      | some (.ct s2) => whileM c b n s2
      | some (.bk s2) => some (.nx s2)
      | some (.rt v o) => some (.rt v o)
theorem ss_while {tc : TT} {tb : TS} {c : TM} {b : SM} (n : Nat) (hc : SnT tc c) (hb : SnS tb b) : SnS (tWhile tc tb) (whileM c b n) := by
  intro Z M s σ H h out e E f
  refine ⟨fun m σ2 H2 => ∃ M2 s2, Ext M H M2 H2 ∧ Rel Z M2 s2 σ2 H2 ∧ whileM c b m s2 = some out, ⟨n, M, s, Ext.refl M H, h, e⟩, ?_⟩
  rintro m σ2 H2 ⟨M2, s2, e2, h2, l2⟩
  cases m with
  | zero => unfold whileM at l2; cases l2
  | succ m =>
    unfold whileM at l2
    split at l2
    · cases l2
    · rename_i o1 ec
      cases l2
      refine hc Z M2 s2 σ2 H2 h2 _ _ ec _ fun M3 H3 ⟨e3, _⟩ h3 => ?_
      rw [if_neg (by decide)]
      exact f M3 σ2 H3 (e2.trans e3) h3
    · rename_i o1 ec
      refine hc Z M2 s2 σ2 H2 h2 _ _ ec _ fun M3 H3 ⟨e3, _⟩ h3 => ?_
      rw [if_pos rfl]
      have e03 := e2.trans e3
      refine ⟨fun σ4 H4 => ∃ M4 s4, Ext M H M4 H4 ∧ Rel Z M4 s4 σ4 H4 ∧ whileM c b m s4 = some out, fun σ4 H4 q => ⟨m, Nat.lt_succ_self m, q⟩, ?_⟩
      split at l2
      · cases l2
      · rename_i s5 eb
        refine hb Z M3 (s2.on o1) σ2 H3 h3 _ eb _ ?_
        exact fun M6 σ6 H6 e6 h6 => ⟨M6, s5, e03.trans e6, h6, l2⟩
      · rename_i s5 eb
        refine hb Z M3 (s2.on o1) σ2 H3 h3 _ eb _ ?_
        exact fun M6 σ6 H6 e6 h6 => ⟨M6, s5, e03.trans e6, h6, l2⟩
      · rename_i s5 eb
        cases l2
        refine hb Z M3 (s2.on o1) σ2 H3 h3 _ eb _ ?_
        exact fun M6 σ6 H6 e6 h6 => f M6 σ6 H6 (e03.trans e6) h6
      · rename_i v5 o5 eb
        cases l2
        refine hb Z M3 (s2.on o1) σ2 H3 h3 _ eb _ ?_
        exact fun M6 v6 H6 e6 h6 r6 => f M6 v6 H6 (e03.trans e6) h6 r6
end
end AP

namespace AP
noncomputable section
open PySem PySem.Spec PyProof.Rows L2 RZ
variable [Tbls] [Gd]
theorem meets_enum1 {v : Value} {o : Obj} {H : Heap → Prop} (B : Begins v o H) :
    Meets (Builtin.«enumerate.__new__» ⟨[.type "enumerate", v], []⟩) (fun _ R s => H s.heap ∧
      R (.ok (.ret (.ref (s.heap.push o).objs.size))) { s with heap := (s.heap.push o).push { cls := .type "enumerate", data := .fields #[.none, .bool false, .ref s.heap.objs.size, rawInt 0, .none, .none] } }) := by
  refine .of_wp fun prog w A R s h => ?_
  obtain ⟨hp, g, d, tk, os⟩ := s
  obtain ⟨h1, h⟩ := h
  have hsub := sub_enumerate
  have q1 : ∀ {A' : Around} {E : Value → Shared → Prop} {Q : Value → Shared → Prop}, Q (.ref hp.objs.size) ⟨hp.push o, g, d, tk, os⟩ → wpAny (model prog w) A' (pyIter v) Q E ⟨hp, g, d, tk, os⟩ := fun q => B.iter prog w _ _ ⟨hp, g, d, tk, os⟩ _ h1 q
  wp_walk using q1
  refine wpAny_stack_any fun st => wpAny_pure ?_
  split
  · rename_i c _ _ _ _ _
    cases (c == Value.type "enumerate") <;> (wp_walk using q1; exact ⟨_, rfl, h⟩)
  · wp_walk using q1
    exact ⟨_, rfl, h⟩
theorem call_enumB {prog : Program} {w : World} {A : Around} {E : Value → Shared → Prop} {s : Shared} {v : Value} {o : Obj} {H : Heap → Prop} {Q : Value → Shared → Prop} (B : Begins v o H) (h1 : H s.heap)
    (h : ∀ h', IsEnum h' (s.heap.objs.size + 1) s.heap.objs.size 0 .none → h'.get? s.heap.objs.size = some o → (∀ b u, s.heap.get? b = some u → h'.get? b = some u) → Q (.ref (s.heap.objs.size + 1)) { s with heap := h' }) :
    wpAny (model prog w) A (call (.type "enumerate") [v]) Q E s := by
  refine callType_new F.called_enumerate (by decide) (F.typeCall_enumerate_1 _) (F.newCall_enumerate_1 _) (fun obj => F.args_object_init_2 obj _) F.entry_enumerate_new (meets_enum1 B) ⟨h1, ?_⟩
  have hz : (s.heap.push o).objs.size = s.heap.objs.size + 1 := Heap.size_push ..
  show _ ∧ _
  rw [hz]
  have he : IsEnum ((s.heap.push o).push { cls := .type "enumerate", data := .fields #[.none, .bool false, .ref s.heap.objs.size, rawInt 0, .none, .none] }) (s.heap.objs.size + 1) s.heap.objs.size 0 .none := by
    have z := Heap.get?_push_size (s.heap.push o) (o := { cls := .type "enumerate", data := .fields #[.none, .bool false, .ref s.heap.objs.size, rawInt 0, .none, .none] }) rfl
    rw [hz] at z
    exact z
  exact ⟨⟨_, he, rfl⟩, h _ he (Heap.get?_push_of_some _ (Heap.get?_push_size _ B.free)) fun b u x => Heap.get?_push_of_some _ (Heap.get?_push_of_some _ x)⟩
def YPairF (f g : Nat → Option V) (i : Nat) (H : Hp) (v : V) (H' : Hp) : Prop := ∃ T x y, v = .ref T ∧ H T = none ∧ (∃ o : Obj, o.dict = none ∧ H' = upd H T (.frz o (.tup [x, y]))) ∧ f i = some x ∧ g i = some y
theorem src_pairF {Z : Zs} {M : List Addr} {H : Hp} {J : It} {n : Nat} {G : Hp → Prop} {f g : Nat → Option V} {f' g' : Nat → Option D} (w : L2.Walk J n G (YPairF f g)) (hG : ∀ M2 H2, Ext M H M2 H2 → G H2)
    (hf : ∀ i x, f i = some x → ∃ d, f' i = some d ∧ ∀ M2 H2, Ext M H M2 H2 → Rp (zz Z M2) H2 x d) (hg : ∀ i x, g i = some x → ∃ d, g' i = some d ∧ ∀ M2 H2, Ext M H M2 H2 → Rp (zz Z M2) H2 x d)
    (items : List D) (hl : items.length = n) (hi : ∀ i d e, i < n → f' i = some d → g' i = some e → items[i]? = some (.tuple [d, e])) : Src Z M H J items := by
  refine ⟨G, _, by rw [hl]; exact w, hG, fun i H2 x H3 M2 e hz hin y => ?_⟩
  obtain ⟨T, u, v, rfl, hT, ⟨o, ho, rfl⟩, hu, hv⟩ := y
  obtain ⟨d1, h1, k1⟩ := hf i u hu
  obtain ⟨d2, h2, k2⟩ := hg i v hv
  have nw := New.upd (o := .frz o (.tup [u, v])) hT
  exact ⟨nw, _, hi i d1 d2 (by rw [← hl]; exact hin) h1 h2, .tup (fresh_nz hz hT) (TupAt.new ho) (.cons ((k1 M2 H2 e).new nw) (.cons ((k2 M2 H2 e).new nw) .nil))⟩
def IteT (K : PySem.W.Frag) (a : Addr) : It where
  go i H := ∃ (xs : List V) (x : V), SqT K H a xs ∧ xs[i]? = some x
  yld i H v H' := ∃ T x, v = .ref T ∧ H T = none ∧ (∃ o : Obj, o.dict = none ∧ H' = upd H T (.frz o (.tup [.int (i : Nat), x]))) ∧ ∀ xs, SqT K H a xs → xs[i]? = some x
  stop i H := ∃ xs : List V, SqT K H a xs ∧ xs.length = i
def AtT (a e it : Addr) (i : Nat) (h : Heap) : Prop := (∃ old, IsEnum h e it ((i : Nat) : Int) old) ∧ h.IsTupleIter it a i ∧ e ≠ it ∧ a ≠ it ∧ e ≠ a
theorem turn_enumT {P : Program} {w : World} {K : PySem.W.Frag} {elts : List Expr} {kk : Nat} {tpos : Pos} (a e it : Addr) : Turn P w K (.Tuple elts kk tpos) (IteT K a) [e, it] e (AtT a e it) := by
  constructor
  case mem => simp
  case obj =>
    rintro i h ⟨⟨old, he⟩, ⟨o, ho, hc, hd⟩, _⟩ b hb
    rcases (by simpa using hb : b = e ∨ b = it) with z | z
    · rw [z]; exact ⟨_, he, fun v q => nomatch q⟩
    · rw [z]; exact ⟨o, ho, fun v q => by rw [hd] at q; cases q⟩
  case keep =>
    rintro i h h' ⟨⟨old, he⟩, hi, ne⟩ k
    exact ⟨⟨old, k e (by simp) _ he⟩, hi.at fun o q => k it (by simp) o q, ne⟩
  case item =>
    intro X hP hw hK hc i pins s σ H E I hf st hg
    subst hP hw hK
    obtain ⟨⟨old, he⟩, hit, ne1, ne2, ne3⟩ := st
    obtain ⟨xs, x, hq, hx⟩ := hg
    obtain ⟨its, rv, p, hz⟩ := I.tuple hq
    obtain ⟨u, hu, ru⟩ := rv.get hx
    have lte : e < s.heap.objs.size := Heap.lt_size he
    have lti : it < s.heap.objs.size := by obtain ⟨_, q, _⟩ := hit; exact Heap.lt_size q
    have lta : a < s.heap.objs.size := by obtain ⟨_, q, _⟩ := id p; exact Heap.lt_size q
    have Dr := Draws.tuple (prog := X.prog) (w := X.w) (A := X.A.in1) (I.ok.hd hc) it a ne2 its.toArray
    have hlt : i < its.toArray.size := by
      have := (List.getElem?_eq_some_iff.mp hu).1
      simpa using this
    refine wpAny_pyNext_enum_itemD Dr he ⟨hit, p⟩ hlt ne1 (by simp only [List.mem_cons, List.not_mem_nil, or_false, not_or]; exact ⟨ne1, ne3⟩) fun y h' tk hy ho hst hT hsz hk => ?_
    have ey : y = u := by
      have h2 : its.toArray[i]? = some u := by simpa using hu
      exact Option.some.inj (hy.symm.trans h2)
    subst ey
    refine ⟨_, rfl, wpAny_letOwnedTupleGo_enum (s := { s with heap := h', toks := tk + 1 }) ho fun h2 he2 sb => ?_⟩
    have hT2 : h2.get? s.heap.objs.size = some { cls := .type "tuple", data := .seq #[.int i tk, y] } := (sb.2 _ (Nat.ne_of_gt lte)).trans hT
    have new : ObjOk X.prog X.w (upd H s.heap.objs.size (.frz { cls := .type "tuple", data := .seq #[.int i tk, y] } (.tup [.int (i : Nat), x]))) h2 s.heap.objs.size (.frz { cls := .type "tuple", data := .seq #[.int i tk, y] } (.tup [.int (i : Nat), x])) :=
      ⟨hT2, by show 2 ≤ sizeLine; decide, [.int i tk, y], .cons ⟨_, rfl⟩ (.cons ru .nil), ⟨_, hT2, rfl, _, rfl⟩⟩
    have I1 : L2.Inv X pins σ (upd H s.heap.objs.size (.frz { cls := .type "tuple", data := .seq #[.int i tk, y] } (.tup [.int (i : Nat), x]))) { s with heap := h2, toks := tk + 1 } :=
      I.turnedNew (ch := [e, it]) (fun b ob hb q => (sb.2 b (fun z => hb (by simp [z]))).trans (hk b ob (fun z => hb (by simp [z])) (fun z => hb (by simp [z])) q)) hf (Nat.le_refl _) new
    refine ⟨.ref s.heap.objs.size, _, I1, rfl, ⟨_, x, rfl, I.hok.fresh (Nat.le_refl _), ⟨_, rfl, rfl⟩, fun ys hy => by rw [I.tuple_inj hy hq]; exact hx⟩, ⟨⟨y, ?_⟩, hst.1.at fun o q => (sb.2 it (Ne.symm ne1)).trans q, ne1, ne2, ne3⟩, fun b hb => ?_⟩
    · have e1 : ((i + 1 : Nat) : Int) = (i : Int) + 1 := by omega
      rw [e1]; exact he2
    · have hb' : b < s.heap.objs.size := by
        rcases (by simpa using hb : b = e ∨ b = it) with z | z
        · rw [z]; exact lte
        · rw [z]; exact lti
      rw [upd_ne (Nat.ne_of_lt hb')]
      exact (hf b hb).1
  case done =>
    intro X hP hw hK hc i pins s σ H E I hf st hg
    subst hP hw hK
    obtain ⟨⟨old, he⟩, hit, ne1, ne2, ne3⟩ := st
    obtain ⟨xs, hq, hx⟩ := hg
    obtain ⟨its, rv, p, hz⟩ := I.tuple hq
    obtain ⟨f0, f1, f2, f3, f4, f5⟩ := hf it (by simp)
    have hl : its.toArray.size = i := by rw [List.size_toArray, ← rv.length]; exact hx
    have Dr := Draws.tuple (prog := X.prog) (w := X.w) (A := X.A.in1) (I.ok.hd hc) it a ne2 its.toArray
    rw [hl] at Dr
    exact wpAny_pyNext_enum_endD Dr he ⟨hit, p⟩ fun h' eb => ⟨rfl, I.turned (t' := s.toks) (fun b o hb q => eb b o hb q) f0 f1 f3 f4 f5⟩
  case self => exact fun A i s Q E st h => wpAny_pyIter_enum st.1.choose_spec h
theorem walk_enumT {K : PySem.W.Frag} {a : Addr} {xs : List V} : L2.Walk (IteT K a) xs.length (fun H => SqT K H a xs) (YPairF (fun i => some (.int (i : Nat))) (fun i => xs[i]?)) := by
  refine ⟨fun i _ hi q => ⟨xs, xs[i], q, by simp [hi]⟩, fun _ q => ⟨xs, q, rfl⟩, fun i H v H' _ q y => ?_⟩
  obtain ⟨T, x, h1, h2, h3, h4⟩ := y
  exact ⟨T, .int (i : Nat), x, h1, h2, h3, rfl, h4 xs q⟩
def iEnT (K : PySem.W.Frag) (ta : TA) : TI := fun σ H R => ta σ H fun vs H1 => ∃ a xs, vs = [.ref a] ∧ SqT K H1 a xs ∧ R (IteT K a) H1
theorem pi_enT {X : Cx} {e : Expr} {ta : TA} {p pos tpos : Pos} {elts : List Expr} {kk : Nat} (hg : Gl X "enumerate") (hm : X.mg "enumerate" = none) (ha : PA X [e] ta) (hs : starEach [e] X.env = [(false, eval e X.env)] := by rfl) :
    PI X (.Tuple elts kk tpos) (.Call (.Name "enumerate" p) [e] [] pos) (iEnT X.K ta) := by
  constructor
  intro pins s σ H R I h
  refine Call_ (ld_blt I hg hm boot_enumerate (PyProof.Rows.callWith_type1 (thn (ha.run pos pins s σ H _ I h) ?_) hs rfl))
  rintro us s1 ⟨vs, H1, I1, r1, a, xs, ex, hq, q⟩
  subst ex
  cases r1 with
  | cons r rr =>
    cases rr
    cases r
    obtain ⟨its, rv, p', hz⟩ := I1.tuple hq
    have lta : a < s1.heap.objs.size := by obtain ⟨_, z, _⟩ := id p'; exact Heap.lt_size z
    refine call_enumB (begins_tuple a its.toArray) p' fun h' he hit hk => wpAny_pyIter_enum he ?_
    have I2 : L2.Inv X pins σ H1 { s1 with heap := h' } := I1.kept (t' := s1.toks) hk
    refine ⟨s1.heap.objs.size + 1, [s1.heap.objs.size + 1, s1.heap.objs.size], _, _, H1, rfl, I2, turn_enumT a (s1.heap.objs.size + 1) s1.heap.objs.size, ⟨⟨.none, he⟩, ⟨_, hit, rfl, rfl⟩, Nat.succ_ne_self _, Nat.ne_of_lt lta, Nat.ne_of_gt (Nat.lt_succ_of_lt lta)⟩, fun b hb => ?_, q⟩
    have hle : s1.heap.objs.size ≤ b := by
      rcases (by simpa using hb : b = s1.heap.objs.size + 1 ∨ b = s1.heap.objs.size) with z | z
      · rw [z]; exact Nat.le_succ _
      · rw [z]; exact Nat.le_refl _
    exact I1.fpOk hle (I1.hok.fresh hle)
def IteL (K : PySem.W.Frag) (a : Addr) : It where
  go i H := ∃ (xs : List V) (x : V), SqL K H a xs ∧ xs[i]? = some x
  yld i H v H' := ∃ T x, v = .ref T ∧ H T = none ∧ (∃ o : Obj, o.dict = none ∧ H' = upd H T (.frz o (.tup [.int (i : Nat), x]))) ∧ ∀ xs, SqL K H a xs → xs[i]? = some x
  stop i H := ∃ xs : List V, SqL K H a xs ∧ xs.length = i
def AtL (a e it : Addr) (i : Nat) (h : Heap) : Prop := (∃ old, IsEnum h e it ((i : Nat) : Int) old) ∧ h.IsListIter it a i ∧ e ≠ it ∧ a ≠ it ∧ e ≠ a
theorem turn_enumL {P : Program} {w : World} {K : PySem.W.Frag} {elts : List Expr} {kk : Nat} {tpos : Pos} (a e it : Addr) : Turn P w K (.Tuple elts kk tpos) (IteL K a) [e, it] e (AtL a e it) := by
  constructor
  case mem => simp
  case obj =>
    rintro i h ⟨⟨old, he⟩, ⟨o, ho, hc, hd⟩, _⟩ b hb
    rcases (by simpa using hb : b = e ∨ b = it) with z | z
    · rw [z]; exact ⟨_, he, fun v q => nomatch q⟩
    · rw [z]; exact ⟨o, ho, fun v q => by rw [hd] at q; cases q⟩
  case keep =>
    rintro i h h' ⟨⟨old, he⟩, hi, ne⟩ k
    exact ⟨⟨old, k e (by simp) _ he⟩, hi.at fun o q => k it (by simp) o q, ne⟩
  case item =>
    intro X hP hw hK hc i pins s σ H E I hf st hg
    subst hP hw hK
    obtain ⟨⟨old, he⟩, hit, ne1, ne2, ne3⟩ := st
    obtain ⟨xs, x, hq, hx⟩ := hg
    obtain ⟨its, rv, p, hz⟩ := I.list hq
    obtain ⟨u, hu, ru⟩ := rv.get hx
    have lte : e < s.heap.objs.size := Heap.lt_size he
    have lti : it < s.heap.objs.size := by obtain ⟨_, q, _⟩ := hit; exact Heap.lt_size q
    have lta : a < s.heap.objs.size := by obtain ⟨_, q, _⟩ := id p.isList; exact Heap.lt_size q
    have Dr := Draws.list (prog := X.prog) (w := X.w) (A := X.A.in1) (I.ok.hd hc) it a ne2 its.toArray
    have hlt : i < its.toArray.size := by
      have := (List.getElem?_eq_some_iff.mp hu).1
      simpa using this
    refine wpAny_pyNext_enum_itemD Dr he ⟨hit, p.isList⟩ hlt ne1 (by simp only [List.mem_cons, List.not_mem_nil, or_false, not_or]; exact ⟨ne1, ne3⟩) fun y h' tk hy ho hst hT hsz hk => ?_
    have ey : y = u := by
      have h2 : its.toArray[i]? = some u := by simpa using hu
      exact Option.some.inj (hy.symm.trans h2)
    subst ey
    refine ⟨_, rfl, wpAny_letOwnedTupleGo_enum (s := { s with heap := h', toks := tk + 1 }) ho fun h2 he2 sb => ?_⟩
    have hT2 : h2.get? s.heap.objs.size = some { cls := .type "tuple", data := .seq #[.int i tk, y] } := (sb.2 _ (Nat.ne_of_gt lte)).trans hT
    have new : ObjOk X.prog X.w (upd H s.heap.objs.size (.frz { cls := .type "tuple", data := .seq #[.int i tk, y] } (.tup [.int (i : Nat), x]))) h2 s.heap.objs.size (.frz { cls := .type "tuple", data := .seq #[.int i tk, y] } (.tup [.int (i : Nat), x])) :=
      ⟨hT2, by show 2 ≤ sizeLine; decide, [.int i tk, y], .cons ⟨_, rfl⟩ (.cons ru .nil), ⟨_, hT2, rfl, _, rfl⟩⟩
    have I1 : L2.Inv X pins σ (upd H s.heap.objs.size (.frz { cls := .type "tuple", data := .seq #[.int i tk, y] } (.tup [.int (i : Nat), x]))) { s with heap := h2, toks := tk + 1 } :=
      I.turnedNew (ch := [e, it]) (fun b ob hb q => (sb.2 b (fun z => hb (by simp [z]))).trans (hk b ob (fun z => hb (by simp [z])) (fun z => hb (by simp [z])) q)) hf (Nat.le_refl _) new
    refine ⟨.ref s.heap.objs.size, _, I1, rfl, ⟨_, x, rfl, I.hok.fresh (Nat.le_refl _), ⟨_, rfl, rfl⟩, fun ys hy => by rw [I.list_inj hy hq]; exact hx⟩, ⟨⟨y, ?_⟩, hst.1.at fun o q => (sb.2 it (Ne.symm ne1)).trans q, ne1, ne2, ne3⟩, fun b hb => ?_⟩
    · have e1 : ((i + 1 : Nat) : Int) = (i : Int) + 1 := by omega
      rw [e1]; exact he2
    · have hb' : b < s.heap.objs.size := by
        rcases (by simpa using hb : b = e ∨ b = it) with z | z
        · rw [z]; exact lte
        · rw [z]; exact lti
      rw [upd_ne (Nat.ne_of_lt hb')]
      exact (hf b hb).1
  case done =>
    intro X hP hw hK hc i pins s σ H E I hf st hg
    subst hP hw hK
    obtain ⟨⟨old, he⟩, hit, ne1, ne2, ne3⟩ := st
    obtain ⟨xs, hq, hx⟩ := hg
    obtain ⟨its, rv, p, hz⟩ := I.list hq
    obtain ⟨f0, f1, f2, f3, f4, f5⟩ := hf it (by simp)
    have hl : its.toArray.size = i := by rw [List.size_toArray, ← rv.length]; exact hx
    have Dr := Draws.list (prog := X.prog) (w := X.w) (A := X.A.in1) (I.ok.hd hc) it a ne2 its.toArray
    rw [hl] at Dr
    exact wpAny_pyNext_enum_endD Dr he ⟨hit, p.isList⟩ fun h' eb => ⟨rfl, I.turned (t' := s.toks) (fun b o hb q => eb b o hb q) f0 f1 f3 f4 f5⟩
  case self => exact fun A i s Q E st h => wpAny_pyIter_enum st.1.choose_spec h
theorem walk_enumL {K : PySem.W.Frag} {a : Addr} {xs : List V} : L2.Walk (IteL K a) xs.length (fun H => SqL K H a xs) (YPairF (fun i => some (.int (i : Nat))) (fun i => xs[i]?)) := by
  refine ⟨fun i _ hi q => ⟨xs, xs[i], q, by simp [hi]⟩, fun _ q => ⟨xs, q, rfl⟩, fun i H v H' _ q y => ?_⟩
  obtain ⟨T, x, h1, h2, h3, h4⟩ := y
  exact ⟨T, .int (i : Nat), x, h1, h2, h3, rfl, h4 xs q⟩
def iEnL (K : PySem.W.Frag) (ta : TA) : TI := fun σ H R => ta σ H fun vs H1 => ∃ a xs, vs = [.ref a] ∧ SqL K H1 a xs ∧ R (IteL K a) H1
theorem pi_enL {X : Cx} {e : Expr} {ta : TA} {p pos tpos : Pos} {elts : List Expr} {kk : Nat} (hg : Gl X "enumerate") (hm : X.mg "enumerate" = none) (ha : PA X [e] ta) (hs : starEach [e] X.env = [(false, eval e X.env)] := by rfl) :
    PI X (.Tuple elts kk tpos) (.Call (.Name "enumerate" p) [e] [] pos) (iEnL X.K ta) := by
  constructor
  intro pins s σ H R I h
  refine Call_ (ld_blt I hg hm boot_enumerate (PyProof.Rows.callWith_type1 (thn (ha.run pos pins s σ H _ I h) ?_) hs rfl))
  rintro us s1 ⟨vs, H1, I1, r1, a, xs, ex, hq, q⟩
  subst ex
  cases r1 with
  | cons r rr =>
    cases rr
    cases r
    obtain ⟨its, rv, p', hz⟩ := I1.list hq
    have lta : a < s1.heap.objs.size := by obtain ⟨_, z, _⟩ := id p'.isList; exact Heap.lt_size z
    refine call_enumB (begins_list a its.toArray) p'.isList fun h' he hit hk => wpAny_pyIter_enum he ?_
    have I2 : L2.Inv X pins σ H1 { s1 with heap := h' } := I1.kept (t' := s1.toks) hk
    refine ⟨s1.heap.objs.size + 1, [s1.heap.objs.size + 1, s1.heap.objs.size], _, _, H1, rfl, I2, turn_enumL a (s1.heap.objs.size + 1) s1.heap.objs.size, ⟨⟨.none, he⟩, ⟨_, hit, rfl, rfl⟩, Nat.succ_ne_self _, Nat.ne_of_lt lta, Nat.ne_of_gt (Nat.lt_succ_of_lt lta)⟩, fun b hb => ?_, q⟩
    have hle : s1.heap.objs.size ≤ b := by
      rcases (by simpa using hb : b = s1.heap.objs.size + 1 ∨ b = s1.heap.objs.size) with z | z
      · rw [z]; exact Nat.le_succ _
      · rw [z]; exact Nat.le_refl _
    exact I1.fpOk hle (I1.hok.fresh hle)
def mEnum (a : AM) : IM := fun s => match a s with
  | some ([.d (.list xs)], o1) => some (enumD 0 xs, o1)
  | some ([.d (.tuple xs)], o1) => some (enumD 0 xs, o1)
  | _ => none
def iEnA (K : PySem.W.Frag) (ta : TA) : TI := fun σ H R => iEnL K ta σ H R ∨ iEnT K ta σ H R
theorem pi_enA {X : Cx} {e : Expr} {ta : TA} {p pos tpos : Pos} {elts : List Expr} {kk : Nat} (hg : Gl X "enumerate") (hm : X.mg "enumerate" = none) (ha : PA X [e] ta) (hs : starEach [e] X.env = [(false, eval e X.env)] := by rfl) :
    PI X (.Tuple elts kk tpos) (.Call (.Name "enumerate" p) [e] [] pos) (iEnA X.K ta) := pi_or (pi_enL hg hm ha hs) (pi_enT hg hm ha hs)
theorem enum_items {Z : Zs} {M : List Addr} {H : Hp} {xs : List V} {ds : List D} {J : It} {G : Hp → Prop} (w : L2.Walk J xs.length G (YPairF (fun i => some (.int (i : Nat))) (fun i => xs[i]?))) (r : RpA (zz Z M) H xs ds) (hG : ∀ M2 H2, Ext M H M2 H2 → G H2) :
    Src Z M H J (enumD 0 ds) := by
  refine src_pairF (f' := fun i => some (.int (i : Int))) (g' := fun i => ds[i]?) w hG (fun i x hx => ?_) (pair_of r) _ (by rw [enumD_len, r.length]) fun i d e _ a b => ?_
  · cases hx; exact ⟨_, rfl, fun M2 H2 e => .int _⟩
  · cases a
    have z := enumD_get ds 0 i e b
    rw [Int.zero_add] at z
    exact z
theorem si_enum {K : PySem.W.Frag} {ta : TA} {a : AM} (ha : SnA ta a) : SnI (iEnA K ta) (mEnum a) := by
  intro Z M s σ H h items o' e R q
  unfold mEnum at e
  split at e
  · rename_i xs o1 ea
    cases e
    refine .inl (ha Z M s σ H h _ _ ea _ fun M1 vs H1 ⟨e1, m1⟩ h1 r1 => ?_)
    subst m1
    cases r1 with
    | cons hx t =>
      cases t
      have r2 : Rp (zz Z _) H1 _ (.list xs) := hx
      cases r2 with
      | lst z2 hx2 rx2 => exact ⟨_, _, rfl, SqL.of hx2, q _ H1 e1 h1 (enum_items (walk_enumL (K := K)) rx2 fun M2 H2 e => SqL.of (e.keepz z2 hx2))⟩
  · rename_i xs o1 ea
    cases e
    refine .inr (ha Z M s σ H h _ _ ea _ fun M1 vs H1 ⟨e1, m1⟩ h1 r1 => ?_)
    subst m1
    cases r1 with
    | cons hx t =>
      cases t
      have r2 : Rp (zz Z _) H1 _ (.tuple xs) := hx
      cases r2 with
      | tup z2 hx2 rx2 => exact ⟨_, _, rfl, hx2.sq, q _ H1 e1 h1 (enum_items (walk_enumT (K := K)) rx2 fun M2 H2 e => (hx2.ext e z2).sq)⟩
  · cases e
def wipeS (σ : List (Option SV)) : List Nat → List (Option SV)
  | [] => σ
  | v :: vs => (wipeS σ vs).set v none
structure GK (vs : List Nat) (g : TG) : Prop where
  mono : ∀ v σ H (Q Q' : L2.St → Hp → Prop), (∀ σ' H', Q σ' H' → Q' σ' H') → g v σ H Q → g v σ H Q'
  kept : ∀ v σ H (Q : L2.St → Hp → Prop), g v σ H (fun σ' H' => wipe σ' vs = wipe σ vs → Q σ' H') → g v σ H Q
structure GKs (vs : List Nat) (g : TGs) : Prop where
  mono : ∀ v σ H (Q Q' : L2.St → Hp → Prop), (∀ σ' H', Q σ' H' → Q' σ' H') → g v σ H Q → g v σ H Q'
  kept : ∀ v σ H (Q : L2.St → Hp → Prop), g v σ H (fun σ' H' => wipe σ' vs = wipe σ vs → Q σ' H') → g v σ H Q
theorem wipe_set {σ : L2.St} {j : Nat} {x : Option V} : ∀ {vs : List Nat}, j ∈ vs → wipe (σ.set j x) vs = wipe σ vs
  | [], h => by simp at h
  | v :: vs, h => by
    show (wipe (σ.set j x) vs).set v none = (wipe σ vs).set v none
    by_cases hj : j ∈ vs
    · rw [wipe_set hj]
    · have e : j = v := by simpa [hj] using h
      subst e
      have k : ∀ (us : List Nat) (τ : L2.St), j ∉ us → wipe (τ.set j x) us = (wipe τ us).set j x := by
        intro us
        induction us with
        | nil => intro τ _; rfl
        | cons u us ih =>
          intro τ hu
          simp only [List.mem_cons, not_or] at hu
          show (wipe (τ.set j x) us).set u none = ((wipe τ us).set u none).set j x
          rw [ih τ hu.2, List.set_comm _ _ hu.1]
      rw [k vs σ hj, List.set_set]
theorem gk_name {vs : List Nat} {i : Nat} (h : i ∈ vs) : GK vs (gName i) := ⟨fun v σ H Q Q' k q => k _ _ q, fun v σ H Q q => q (wipe_set h)⟩
theorem gks_nil {vs : List Nat} : GKs vs gNil := ⟨fun v σ H Q Q' k q => ⟨q.1, k _ _ q.2⟩, fun v σ H Q q => ⟨q.1, q.2 rfl⟩⟩
theorem gks_cons {vs : List Nat} {t : TG} {u : TGs} (a : GK vs t) (b : GKs vs u) : GKs vs (gCons t u) := by
  refine ⟨fun v σ H Q Q' k q => ?_, fun v σ H Q q => ?_⟩
  · obtain ⟨x, r, e, q⟩ := q
    exact ⟨x, r, e, a.mono _ _ _ _ _ (fun σ' H' z => b.mono _ _ _ _ _ k z) q⟩
  · obtain ⟨x, r, e, q⟩ := q
    refine ⟨x, r, e, a.kept _ _ _ _ (a.mono _ _ _ _ _ (fun σ' H' z w => b.kept _ _ _ _ (b.mono _ _ _ _ _ (fun σ2 H2 z2 w2 => z2 (w2.trans w)) z)) q)⟩
theorem gk_tup {vs : List Nat} {K : PySem.W.Frag} {n : Nat} {t : TGs} (a : GKs vs t) : GK vs (gTup K n t) := by
  refine ⟨fun v σ H Q Q' k q => ?_, fun v σ H Q q => ?_⟩
  · obtain ⟨x, xs, e, e2, e3, q⟩ := q
    exact ⟨x, xs, e, e2, e3, a.mono _ _ _ _ _ k q⟩
  · obtain ⟨x, xs, e, e2, e3, q⟩ := q
    exact ⟨x, xs, e, e2, e3, a.kept _ _ _ _ q⟩
def mYes : TM := fun s => some (true, s.o)
theorem sn_yes : SnT tYes mYes := by
  intro Z M s σ H h r o' e Q q
  cases e
  exact q M H (Ex2.refl M H) h
def lcLoop (k : Nat) (g : GM) (c : TM) (e : EM) (τ : List (Option SV)) : List D → List MO → Option (List MO)
  | [], o => some o
  | d :: r, o => match g (.d d) ⟨τ, o⟩ with
    | none => none
    | some s2 => match c s2 with
      | none => none
      | some (false, o3) => lcLoop k g c e τ r o3
      | some (true, o3) => match e (s2.on o3) with
        | some (.d x, o4) => (match o4[k]? with
          | some (.l acc) => if acc.length < 100000 then lcLoop k g c e τ r (o4.set k (.l (acc ++ [x]))) else none
          | _ => none)
        | _ => none
def mLc (im : IM) (g : GM) (c : TM) (e : EM) (vs : List Nat) : NM := fun s => match im s with
  | none => none
  | some (items, o1) => match lcLoop o1.length g c e (wipeS s.σ vs) items (o1 ++ [.l []]) with
    | none => none
    | some oF => (match oF[o1.length]? with
      | some (.l acc) => some (.l acc, oF.take o1.length)
      | _ => none)
theorem rel_wipe {Z : Zs} {M : List Addr} {s : S} {σ : L2.St} {H : Hp} (h : Rel Z M s σ H) : ∀ vs : List Nat, Rel Z M ⟨wipeS s.σ vs, s.o⟩ (wipe σ vs) H
  | [] => h
  | v :: vs => by
    have ih := rel_wipe h vs
    refine ⟨ih.r, fun i sv q => ?_, ?_⟩
    · have q' : ((wipeS s.σ vs).set v none)[i]? = some (some sv) := q
      by_cases hi : v = i
      · subst hi
        by_cases hl : v < (wipeS s.σ vs).length
        · rw [List.getElem?_set_self hl] at q'; cases q'
        · rw [List.getElem?_eq_none (by simpa using hl)] at q'; cases q'
      · rw [List.getElem?_set_ne hi] at q'
        obtain ⟨u, h1, h2⟩ := ih.sl i sv q'
        refine ⟨u, ?_, h2⟩
        show ((wipe σ vs).set v none)[i]? = _
        rw [List.getElem?_set_ne hi]
        exact h1
    · show ((wipeS s.σ vs).set v none).length = ((wipe σ vs).set v none).length
      rw [List.length_set, List.length_set]
      exact ih.sn
theorem wipe_wipe (σ : L2.St) : ∀ vs us : List Nat, (∀ v ∈ us, v ∈ vs) → wipe (wipe σ vs) us = wipe σ vs
  | vs, [], _ => rfl
  | vs, u :: us, h => by
    show (wipe (wipe σ vs) us).set u none = wipe σ vs
    rw [wipe_wipe σ vs us fun v hv => h v (List.mem_cons_of_mem _ hv)]
    apply List.ext_getElem?
    intro i
    by_cases hi : u = i
    · subst hi
      by_cases hl : u < (wipe σ vs).length
      · rw [List.getElem?_set_self hl]
        cases e : (wipe σ vs)[u]? with
        | none => rw [List.getElem?_eq_getElem hl] at e; cases e
        | some o =>
          cases o with
          | none => rfl
          | some x => exact absurd (h u List.mem_cons_self) (wipe_some e).2
      · rw [List.getElem?_eq_none (by simpa using hl), List.getElem?_eq_none (by simpa using hl)]
    · rw [List.getElem?_set_ne hi]
theorem sn_lc {wi : TI} {tg : TG} {tt : TT} {te : TE} {vs : List Nat} {im : IM} {g : GM} {c : TM} {e : EM} (hi : SnI wi im) (hg : SnG tg g) (gk : GK vs tg) (hc : SnT tt c) (he : Sn te e) : SnN (tLc wi tg tt te vs) (mLc im g c e vs) := by
  intro Z M s σ H h r o' ev Q q
  unfold mLc at ev
  split at ev
  · cases ev
  · rename_i items o1 ei
    split at ev
    · cases ev
    · rename_i oF el
      split at ev
      · rename_i acc hacc
        cases ev
        refine hi Z M s σ H h items o1 ei _ fun J H1 e1 h1 src => ?_
        obtain ⟨G, Y, w, hG, hY⟩ := src
        intro Dl hD
        have k1 : o1.length = M.length := h1.r.len
        obtain ⟨n1, n2⟩ := own_new (ob := .lst []) (r := .l []) h1 hD ⟨[], rfl, .nil⟩
        have w1 := rel_wipe n1 vs
        have atD : ∀ M2 : List Addr, M2 = M ++ [Dl] → M2[o1.length]? = some Dl := fun M2 e => by
          rw [e, k1, List.getElem?_append_right (Nat.le_refl _)]; simp
        refine L2.lc_it w (fun i H2 => ∃ o2, Ext M H1 (M ++ [Dl]) H2 ∧ Rel Z (M ++ [Dl]) ⟨wipeS s.σ vs, o2⟩ (wipe σ vs) H2 ∧ lcLoop o1.length g c e (wipeS s.σ vs) (items.drop i) o2 = some oF)
          ⟨_, n2, w1, el⟩ (fun i H2 _ ⟨o2, x, _⟩ => hG _ H2 x) ?_ ?_
        · rintro i x H2 H3 hin ⟨o2, e2, h2, l2⟩ hy
          obtain ⟨nw, d, hd, rd⟩ := hY i H2 x H3 (M ++ [Dl]) e2 h2.r.zzd hin hy
          have edrop : items.drop i = d :: items.drop (i + 1) := by
            rw [List.drop_eq_getElem_cons hin]
            congr 1
            have z := List.getElem?_eq_getElem hin
            rw [hd] at z
            exact (Option.some.inj z).symm
          rw [edrop] at l2
          unfold lcLoop at l2
          split at l2
          · cases l2
          · rename_i s3 es
            refine gk.kept _ _ _ _ ?_
            refine hg Z _ _ _ H3 (h2.new nw) x (.d d) rd s3 es _ fun M4 σ4 H4 ⟨e4, m4⟩ h4 w4 => ?_
            subst m4
            rw [wipe_wipe σ vs vs fun _ z => z] at w4
            refine ⟨w4, ?_⟩
            have e24 : Ext M H1 (M ++ [Dl]) H4 := (e2.trans (Ext.new nw)).trans e4
            have back : ∀ {o5 : List MO} {H5 : Hp}, Ext (M ++ [Dl]) H4 (M ++ [Dl]) H5 → Rob Z (M ++ [Dl]) o5 H5 → Rel Z (M ++ [Dl]) ⟨wipeS s.σ vs, o5⟩ (wipe σ vs) H5 := fun {o5 H5} e5 r5 =>
              (h2.ext_on (o := o5) (((Ext.new nw).trans e4).trans e5) r5)
            split at l2
            · cases l2
            · rename_i o5 ec
              refine hc Z _ s3 σ4 H4 h4 _ _ ec _ fun M5 H5 ⟨e5, m5⟩ h5 => ?_
              subst m5
              rw [if_neg (by decide)]
              exact ⟨o5, e24.trans e5, back e5 h5.r, l2⟩
            · rename_i o5 ec
              refine hc Z _ s3 σ4 H4 h4 _ _ ec _ fun M5 H5 ⟨e5, m5⟩ h5 => ?_
              subst m5
              rw [if_pos rfl]
              split at l2
              · rename_i x6 o6 ee
                refine he Z _ (s3.on o5) σ4 H5 h5 _ _ ee _ fun M6 v6 H6 ⟨e6, m6⟩ h6 r6 => ?_
                subst m6
                split at l2
                · rename_i acc6 ha6
                  split at l2
                  · rename_i hl6
                    obtain ⟨xs, hx, rx⟩ := h6.r.ob o1.length Dl _ (atD _ rfl) ha6
                    obtain ⟨g1, g2⟩ := own_mut (ob := .lst (xs ++ [v6])) (r := .l (acc6 ++ [x6])) h6 (atD _ rfl) ⟨_, rfl, rpA_snoc rx r6⟩
                    refine ⟨xs, hx, Nat.lt_of_lt_of_le (by rw [rx.length]; exact hl6) (small_line (Nat.le_refl _)), _, ((e24.trans e5).trans e6).trans g2, back ((e5.trans e6).trans g2) g1.r, l2⟩
                  · cases l2
                · cases l2
              · cases l2
        · rintro H2 ⟨o2, e2, h2, l2⟩
          rw [List.drop_length] at l2
          unfold lcLoop at l2
          cases l2
          have hl : oF.length = o1.length + 1 := by
            have z := h2.r.len
            simp at z
            rw [k1]; exact z
          have eo : oF.take o1.length ++ [.l acc] = oF := by
            have z := List.take_append_getElem (show o1.length < oF.length by omega)
            have z2 := List.getElem?_eq_getElem (show o1.length < oF.length by omega)
            rw [hacc] at z2
            rw [Option.some.inj z2, z, List.take_of_length_le (by omega)]
          refine q M Dl H2 rfl (e1.trans e2) ?_
          rw [eo]
          exact h.ext_on (o := oF) (e1.trans e2) h2.r
      · cases ev
end
end AP

namespace AP
noncomputable section
open PySem PySem.Spec PyProof.Rows L2 RZ
variable [Tbls] [Gd]
abbrev Fun1 := List D → Option D
structure ZOk (Z : Zs) (H : Hp) : Prop where
  z : ∀ a, Z a → Has H a
  t : LamX.Tabs Tbls.T H
def spP (n : Nat) (f : Fun1) : Sp := fun vs H Q _ => ∃ (Z : Zs) (ds : List D) (d : D), ZOk Z H ∧ RpA Z H vs ds ∧ ds.length = n ∧ f ds = some d ∧ ∀ v H', New H H' → Rp Z H' v d → Q v H'
def st0 (N : Nat) (xs : List SV) : List (Option SV) := xs.map some ++ List.replicate (N - xs.length) none
theorem st0_rel {Z : Zs} {M : List Addr} {H : Hp} {vs : List V} {xs : List SV} {o : List MO} {N : List Str} (r : Rob Z M o H) (h : RvA Z M H vs xs) : Rel Z M ⟨st0 N.length xs, o⟩ (start N vs) H := by
  have hl : vs.length = xs.length := by
    clear r
    induction h with
    | nil => rfl
    | cons _ _ ih => simp [ih]
  have get : ∀ {us : List V} {ys : List SV}, RvA Z M H us ys → ∀ (i : Nat) (sv : SV), ys[i]? = some sv → ∃ v, us[i]? = some v ∧ Rv Z M H v sv := by
    intro us ys q
    induction q with
    | nil => intro i sv e; simp at e
    | cons hv _ ih =>
      intro i sv e
      cases i with
      | zero => simp at e; subst e; exact ⟨_, rfl, hv⟩
      | succ i => simp at e; obtain ⟨v, a, b⟩ := ih i sv e; exact ⟨v, by simpa using a, b⟩
  refine ⟨r, fun i sv q => ?_, by simp [st0, L2.start, hl]⟩
  have q' : (xs.map some ++ List.replicate (N.length - xs.length) none)[i]? = some (some sv) := q
  by_cases hi : i < xs.length
  · rw [List.getElem?_append_left (by simpa using hi), List.getElem?_map] at q'
    obtain ⟨x, e1, e2⟩ := Option.map_eq_some_iff.mp q'
    cases e2
    obtain ⟨v, a, b⟩ := get h i sv e1
    refine ⟨v, ?_, b⟩
    unfold L2.start
    rw [List.getElem?_append_left (by simpa [hl] using hi), List.getElem?_map, a]
    rfl
  · rw [List.getElem?_append_right (by simpa using hi), List.getElem?_replicate] at q'
    split at q' <;> cases q'
def inr (o : List MO) : List Nat → Option (List D)
  | [] => some []
  | k :: ks => match o[k]?, inr o ks with
    | some (.l ds), some r => some (.list ds :: r)
    | some (.k ps), some r => some (.dict (kvD ps) :: r)
    | _, _ => none
def inrK (o : List MO) : List (Key × Nat) → Option (List (Key × D))
  | [] => some []
  | (x, k) :: ks => match o[k]?, inrK o ks with
    | some (.l ds), some r => some ((x, .list ds) :: r)
    | some (.k ps), some r => some ((x, .dict (kvD ps)) :: r)
    | _, _ => none
def tB (o : List MO) : List (D ⊕ Nat) → Option (List D)
  | [] => some []
  | .inl x :: r => (match tB o r with
    | some ds => some (x :: ds)
    | none => none)
  | .inr k :: r => (match vw o (.m k), tB o r with
    | some d, some ds => some (d :: ds)
    | _, _ => none)
def vwE (o : List MO) : SV → Option D
  | .m k => match o[k]? with
    | some (.r ks) => (inr o ks).map .list
    | some (.g ps) => (inrK o ps).map fun l => .dict (kvD l)
    | _ => vw o (.m k)
  | .t xs => (tB o xs).map .tuple
  | x => vw o x
def retD : Option Out → Option D
  | some (.rt v o) => vwE o v
  | some (.nx _) => some .none
  | _ => none
def runP (N : Nat) (m : SM) : Fun1 := fun ds => retD (m ⟨st0 N (ds.map .d), []⟩)
theorem rvA_dats {Z : Zs} {H : Hp} : ∀ {vs : List V} {ds : List D}, RpA Z H vs ds → RvA Z [] H vs (ds.map .d)
  | _, _, .nil => .nil
  | _, _, .cons h r => .cons (h.mono fun a o z q _ => ⟨fun y => y.elim z (by simp), q⟩) (rvA_dats r)
theorem given_up0 {Z : Zs} {M : List Addr} {o : List MO} {H : Hp} {v : V} {sv : SV} {d : D} (r : Rob Z M o H) (h : Rv Z M H v sv) (e : vw o sv = some d) : Rp Z H v d := by
  have k : ∀ (a : Addr) (u : HO), ¬ zz Z M a → H a = some u → nt u → ¬ Z a ∧ H a = some u := fun a u z q _ => ⟨fun y => z (.inl y), q⟩
  cases sv with
  | d x => cases e; exact Rp.mono k h
  | m i =>
    obtain ⟨a, q, rfl⟩ := h
    simp only [vw] at e
    cases ho : o[i]? with
    | none => rw [ho] at e; cases e
    | some x =>
      rw [ho] at e
      have p := r.ob i a x q ho
      have nz : ¬ Z a := r.nz a (List.mem_of_getElem? q)
      cases x with
      | l ds => cases e; obtain ⟨xs, p1, p2⟩ := p; exact .lst nz p1 (p2.mono k)
      | k ps => cases e; obtain ⟨xs, p1, p2⟩ := p; exact .dct nz (.inl p1) (p2.mono k)
      | r ks => cases e
      | g ps => cases e
  | w u => cases e
  | q _ _ => cases e
  | t _ => cases e
theorem inr_rp {Z : Zs} {M : List Addr} {o : List MO} {H : Hp} (r : Rob Z M o H) : ∀ {xs : List V} {ks : List Nat} {ds : List D}, RnA M xs ks → inr o ks = some ds → RpA Z H xs ds
  | _, _, _, .nil, e => by simp only [inr] at e; cases e; exact .nil
  | _, _, _, .cons (k := k) hm t, e => by
    simp only [inr] at e
    split at e
    · rename_i ds rr ho hr
      cases e
      exact .cons (given_up0 (sv := .m k) r ⟨_, hm, rfl⟩ (by simp only [vw, ho])) (inr_rp r t hr)
    · rename_i ps rr ho hr
      cases e
      exact .cons (given_up0 (sv := .m k) r ⟨_, hm, rfl⟩ (by simp only [vw, ho])) (inr_rp r t hr)
    · cases e
theorem inrK_rp {Z : Zs} {M : List Addr} {o : List MO} {H : Hp} (r : Rob Z M o H) : ∀ {xs : List (Key × V)} {ks : List (Key × Nat)} {ds : List (Key × D)}, RnK M xs ks → inrK o ks = some ds → RpK Z H xs (kvD ds)
  | _, _, _, .nil, e => by simp only [inrK] at e; cases e; exact .nil
  | _, _, _, .cons (k := k) hm t, e => by
    simp only [inrK] at e
    split at e
    · rename_i ds rr ho hr
      cases e
      exact .cons (given_up0 (sv := .m k) r ⟨_, hm, rfl⟩ (by simp only [vw, ho])) (inrK_rp r t hr)
    · rename_i ps rr ho hr
      cases e
      exact .cons (given_up0 (sv := .m k) r ⟨_, hm, rfl⟩ (by simp only [vw, ho])) (inrK_rp r t hr)
    · cases e
theorem given_upB {Z : Zs} {M : List Addr} {o : List MO} {H : Hp} (r : Rob Z M o H) : ∀ {vs : List V} {xs : List (D ⊕ Nat)} {ds : List D}, RvB Z M H vs xs → tB o xs = some ds → RpA Z H vs ds
  | _, _, _, .nil, e => by simp only [tB] at e; cases e; exact .nil
  | _, _, _, .d h t, e => by
    simp only [tB] at e
    split at e
    · rename_i ds hd
      cases e
      exact .cons (h.mono fun a u z q _ => ⟨fun y => z (.inl y), q⟩) (given_upB r t hd)
    · cases e
  | _, _, _, .m (k := k) hm t, e => by
    simp only [tB] at e
    split at e
    · rename_i d ds hd hr
      cases e
      exact .cons (given_up0 (sv := .m k) r ⟨_, hm, rfl⟩ hd) (given_upB r t hr)
    · cases e
theorem given_up {Z : Zs} {M : List Addr} {o : List MO} {H : Hp} {v : V} {sv : SV} {d : D} (r : Rob Z M o H) (h : Rv Z M H v sv) (e : vwE o sv = some d) : Rp Z H v d := by
  cases sv with
  | d x => exact given_up0 r h e
  | w u => exact given_up0 r h e
  | q _ _ => exact given_up0 r h e
  | t xs =>
    obtain ⟨a, vs, rfl, z, g, rb⟩ := h
    simp only [vwE] at e
    obtain ⟨ds, h1, rfl⟩ := Option.map_eq_some_iff.mp e
    exact .tup (fun y => z (.inl y)) (g.imp id fun y => absurd y.1 Bool.false_ne_true) (given_upB r rb h1)
  | m i =>
    simp only [vwE] at e
    cases ho : o[i]? with
    | none => rw [ho] at e; exact given_up0 r h e
    | some x =>
      rw [ho] at e
      cases x with
      | l ds => exact given_up0 r h e
      | k ps => exact given_up0 r h e
      | r ks =>
        obtain ⟨ds, h1, h2⟩ := Option.map_eq_some_iff.mp e
        subst h2
        obtain ⟨a, q, rfl⟩ := h
        obtain ⟨xs, p1, p2⟩ := r.ob i a _ q ho
        exact .lst (r.nz a (List.mem_of_getElem? q)) p1 (inr_rp r p2 h1)
      | g ps =>
        obtain ⟨ds, h1, h2⟩ := Option.map_eq_some_iff.mp e
        subst h2
        obtain ⟨a, q, rfl⟩ := h
        obtain ⟨xs, p1, p2⟩ := r.ob i a _ q ho
        exact .dct (r.nz a (List.mem_of_getElem? q)) (.inl p1) (inrK_rp r p2 h1)
theorem ext_new {M' : List Addr} {H H' : Hp} (e : Ext [] H M' H') : New H H' := ⟨fun a o q t => e.keep a o (by simp) q t, e.tab⟩
section
variable {P : Program} {w : World} {K : PySem.W.Frag} {mg : Str → Option Value} {base : Heap} {x qual : Str} {params : Arguments} {body : List Stmt} {scope : Scope} {dvs : List V} {kws : List (Str × V)} {f : Addr} {fd : FuncData}
theorem def_pure {N ps : List Str} {k : Nat} {t : TS} {m : SM} (F : FunD K x qual params body scope dvs kws f fd) (sc : FnScope N ps scope)
    (reading : ∀ (cdv : Value), fd.code = cdv → ∀ (A : Around) (outer : List Env) (s : Shared) (H : Hp) (E : XK), GOk A → Room k (A.deeper (envOfC qual scope s.heap.objs.size f cdv)) → PSs (cxOf CX0 P w K mg base N qual scope f cdv A outer s H E) body t)
    (hm : SnS t m) : FnG P w K mg base CX0 (k + 1) f fd ps (spP ps.length (runP N.length m)) := by
  refine fnG_ok F sc (fun vs H Q E h => ?_) (fun cdv hv A outer s H vs Q E hg hr h => ⟨t, reading cdv hv A outer s H E hg hr, ?_⟩)
  · obtain ⟨Z, ds, d, _, r, hl, _⟩ := h
    rw [r.length, hl]
  · obtain ⟨Z, ds, d, hz, r, hl, hf, q⟩ := h
    unfold runP retD at hf
    have rob : Rob Z [] [] H := ⟨List.nodup_nil, hz.z, by simp, rfl, fun k a x e => by simp at e, hz.t⟩
    have rel := st0_rel (N := N) rob (rvA_dats r)
    split at hf
    · rename_i v o' em
      exact hm Z [] _ _ H rel _ em _ fun M' u H' e r' rv => q u H' (ext_new e) (given_up r' rv hf)
    · rename_i s' em
      cases hf
      exact hm Z [] _ _ H rel _ em _ fun M' u H' e r' => q .non H' (ext_new e) .non
    · cases hf
end
def mCall (n : Nat) (f : Fun1) (a : AM) : EM := fun s => match a s with
  | none => none
  | some (xs, o1) => match dats xs with
    | none => none
    | some ds => if ds.length = n then (match f ds with
      | some d => some (.d d, o1)
      | none => none) else none
theorem sn_call {n : Nat} {f : Fun1} {E : XK} {ta : TA} {a : AM} (ha : SnA ta a) : Sn (tCall (spP n f) [] E ta) (mCall n f a) := by
  intro Z M s σ H h w o' e Q q
  unfold mCall at e
  split at e
  · cases e
  · rename_i xs o1 ea
    refine ha Z M s σ H h _ _ ea _ fun M1 vs H1 e1 h1 r1 => ?_
    split at e
    · cases e
    · rename_i ds hd
      split at e
      · rename_i hn
        split at e
        · rename_i d hf
          cases e
          show spP n f (vs ++ []) H1 Q E
          rw [List.append_nil]
          exact ⟨zz Z M1, ds, d, ⟨h1.r.zzh, h1.r.tb⟩, dats_ok r1 hd, hn, hf, fun v H' nw r => q M1 v H' (e1.trans (Ex2.new nw)) (h1.new nw) r⟩
        · cases e
      · cases e
def mCallK (n : Nat) (f : Fun1) (ix : List Nat) (a : AM) : EM := fun s => match a s with
  | none => none
  | some (xs, o1) => match dats xs with
    | none => none
    | some ds => if (perm ix ds).length = n then (match f (perm ix ds) with
      | some d => some (.d d, o1)
      | none => none) else none
theorem perm_rp {Z : Zs} {H : Hp} {vs : List V} {ds : List D} (r : RpA Z H vs ds) : ∀ ix : List Nat, RpA Z H (perm ix vs) (perm ix ds)
  | [] => .nil
  | i :: ix => by
    unfold perm
    rw [List.filterMap_cons, List.filterMap_cons]
    cases h : ds[i]? with
    | none =>
      have h2 : vs[i]? = none := by
        rw [List.getElem?_eq_none_iff] at *
        rw [r.length]; exact h
      rw [h2]; exact perm_rp r ix
    | some x =>
      obtain ⟨u, h1, h2⟩ := r.get h
      rw [h1]
      exact .cons h2 (perm_rp r ix)
theorem sn_callK {n : Nat} {f : Fun1} {E : XK} {ix : List Nat} {ta : TA} {a : AM} (ha : SnA ta a) : Sn (tCallP (spP n f) ix E ta) (mCallK n f ix a) := by
  intro Z M s σ H h w o' e Q q
  unfold mCallK at e
  split at e
  · cases e
  · rename_i xs o1 ea
    refine ha Z M s σ H h _ _ ea _ fun M1 vs H1 e1 h1 r1 => ?_
    split at e
    · cases e
    · rename_i ds hd
      split at e
      · rename_i hn
        split at e
        · rename_i d hf
          cases e
          exact ⟨zz Z M1, perm ix ds, d, ⟨h1.r.zzh, h1.r.tb⟩, perm_rp (dats_ok r1 hd) ix, hn, hf, fun v H' nw r => q M1 v H' (e1.trans (Ex2.new nw)) (h1.new nw) r⟩
        · cases e
      · cases e
abbrev Fun2 := MO → List D → Option (D × MO)
structure Kp (F : Addr) (H H' : Hp) : Prop where
  at_ : ∀ a o, a ≠ F → H a = some o → nt o → H' a = some o
  tab : LamX.Tabs Tbls.T H → LamX.Tabs Tbls.T H'
  dom : ∀ a, Has H a → Has H' a
def spF (n : Nat) (f : Fun2) : Sp := fun vs H Q _ => ∃ (Z : Zs) (F : Addr) (rest : List V) (fo : MO) (ds : List D) (d : D) (fo' : MO), vs = .ref F :: rest ∧ ZOk Z H ∧ ¬ Z F ∧ Ro Z [F] H F fo ∧ RpA (zz Z [F]) H rest ds ∧ ds.length + 1 = n ∧
  f fo ds = some (d, fo') ∧ ∀ v H', Kp F H H' → Ro Z [F] H' F fo' → Rp (zz Z [F]) H' v d → Q v H'
def retF : Option Out → Option (D × MO)
  | some (.rt (.d v) (fo :: _)) => some (v, fo)
  | some (.nx ⟨_, fo :: _⟩) => some (.none, fo)
  | _ => none
def flat2 (fo : MO) (r : Option (D × MO)) : Option (D × MO) := match r with
  | some (d, fo') => if (flat fo && flat fo') = true then some (d, fo') else none
  | none => none
def runF (N : Nat) (m : SM) : Fun2 := fun fo ds => flat2 fo (retF (m ⟨st0 N (.m 0 :: ds.map .d), [fo]⟩))
theorem flat2_inv {fo : MO} {r : Option (D × MO)} {d : D} {fo' : MO} (h : flat2 fo r = some (d, fo')) : r = some (d, fo') ∧ flat fo = true ∧ flat fo' = true := by
  unfold flat2 at h
  split at h
  · split at h
    · rename_i hc
      rw [Bool.and_eq_true] at hc
      cases h
      exact ⟨rfl, hc⟩
    · cases h
  · cases h
def FlatF (f : Fun2) : Prop := ∀ fo ds d fo', f fo ds = some (d, fo') → flat fo = true ∧ flat fo' = true
theorem flatF_run {N : Nat} {m : SM} : FlatF (runF N m) := fun _ _ _ _ h => (flat2_inv h).2
theorem flat2_kk {a b : List (Key × D)} {d : D} : flat2 (.k a) (some (d, .k b)) = some (d, .k b) := rfl
theorem flat2_eq {fo : MO} {r : Option (D × MO)} {d : D} {fo' : MO} (h : r = some (d, fo')) (h1 : flat fo = true) (h2 : flat fo' = true) : flat2 fo r = some (d, fo') := by
  subst h
  simp only [flat2, h1, h2, Bool.and_self, if_true]
theorem rvA_dats' {Z : Zs} {M : List Addr} {H : Hp} : ∀ {vs : List V} {ds : List D}, RpA (zz Z M) H vs ds → RvA Z M H vs (ds.map .d)
  | _, _, .nil => .nil
  | _, _, .cons h r => .cons h (rvA_dats' r)
theorem Ro.mono {Z Z' : Zs} {M M' : List Addr} {H : Hp} {a : Addr} {o : MO} (k : ∀ b, zz Z' M' b → zz Z M b) (h : Ro Z M H a o) (fl : flat o = true) : Ro Z' M' H a o := by
  have k' : ∀ (b : Addr) (u : HO), ¬ zz Z M b → H b = some u → nt u → ¬ zz Z' M' b ∧ H b = some u := fun b u z q _ => ⟨fun y => z (k b y), q⟩
  cases o with
  | l ds => obtain ⟨xs, q, r⟩ := h; exact ⟨xs, q, r.mono k'⟩
  | k ps => obtain ⟨xs, q, r⟩ := h; exact ⟨xs, q, r.mono k'⟩
  | r ps => cases fl
  | g ps => cases fl
theorem Rp.less {Z Z' : Zs} {H : Hp} {v : V} {d : D} (k : ∀ b, Z' b → Z b) (h : Rp Z H v d) : Rp Z' H v d := h.mono fun b u z q _ => ⟨fun y => z (k b y), q⟩
theorem RpA.less {Z Z' : Zs} {H : Hp} {v : List V} {d : List D} (k : ∀ b, Z' b → Z b) (h : RpA Z H v d) : RpA Z' H v d := h.mono fun b u z q _ => ⟨fun y => z (k b y), q⟩
section
variable {P : Program} {w : World} {K : PySem.W.Frag} {mg : Str → Option Value} {base : Heap} {x qual : Str} {params : Arguments} {body : List Stmt} {scope : Scope} {dvs : List V} {kws : List (Str × V)} {f : Addr} {fd : FuncData}
theorem def_feed {N ps : List Str} {k : Nat} {t : TS} {m : SM} (F : FunD K x qual params body scope dvs kws f fd) (sc : FnScope N ps scope)
    (reading : ∀ (cdv : Value), fd.code = cdv → ∀ (A : Around) (outer : List Env) (s : Shared) (H : Hp) (E : XK), GOk A → Room k (A.deeper (envOfC qual scope s.heap.objs.size f cdv)) → PSs (cxOf CX0 P w K mg base N qual scope f cdv A outer s H E) body t)
    (hm : SnS t m) : FnG P w K mg base CX0 (k + 1) f fd ps (spF ps.length (runF N.length m)) := by
  refine fnG_ok F sc (fun vs H Q E h => ?_) (fun cdv hv A outer s H vs Q E hg hr h => ⟨t, reading cdv hv A outer s H E hg hr, ?_⟩)
  · obtain ⟨Z, F', rest, fo, ds, d, fo', rfl, _, _, _, r, hl, _⟩ := h
    rw [List.length_cons, r.length, hl]
  · obtain ⟨Z, F', rest, fo, ds, d, fo', rfl, hz, nz, ro, r, hl, hf, q⟩ := h
    unfold runF at hf
    obtain ⟨hf, fl1, fl2⟩ := flat2_inv hf
    unfold retF at hf
    have rob : Rob Z [F'] [fo] H := ⟨by simp, hz.z, by simpa using nz, rfl, fun k a x e1 e2 => by
      cases k with
      | zero => simp at e1 e2; subst e1; subst e2; exact ro
      | succ k => simp at e1, hz.t⟩
    have rv0 : RvA Z [F'] H (.ref F' :: rest) (.m 0 :: ds.map .d) := .cons ⟨F', rfl, rfl⟩ (rvA_dats' r)
    have rel := st0_rel (N := N) rob rv0
    have fin : ∀ {M' : List Addr} {H' : Hp} {o' : List MO} {fo2 : MO} {l : List MO}, Ext [F'] H M' H' → Rob Z M' o' H' → o' = fo2 :: l → flat fo2 = true → Kp F' H H' ∧ Ro Z [F'] H' F' fo2 ∧ ∀ b, zz Z [F'] b → zz Z M' b := by
      intro M' H' o' fo2 l e rb eo fl
      obtain ⟨⟨y, hy⟩, ou, kp, dm, tb⟩ := e
      have k1 : ∀ b, zz Z [F'] b → zz Z M' b := fun b z => z.elim .inl fun z => .inr (by rw [hy]; exact List.mem_append_left _ z)
      refine ⟨⟨fun a o ne e t => kp a o (by simpa using ne) e t, tb, dm⟩, Ro.mono k1 (rb.ob 0 F' fo2 (by rw [hy]; rfl) (by rw [eo]; rfl)) fl, k1⟩
    split at hf
    · rename_i v fo2 l em
      cases hf
      refine hm Z [F'] _ _ H rel _ em _ fun M' u H' e r' rv => ?_
      obtain ⟨a1, a2, a3⟩ := fin e r' rfl fl2
      exact q u H' a1 a2 (Rp.less a3 rv)
    · rename_i s2 fo2 l em
      cases hf
      refine hm Z [F'] _ _ H rel _ em _ fun M' u H' e r' => ?_
      obtain ⟨a1, a2, a3⟩ := fin e r'.r rfl fl2
      exact q .non H' a1 a2 .non
    · cases hf
end
def mCallF (n : Nat) (f : Fun2) (a : AM) : EM := fun s => match a s with
  | some (.m k :: xs, o1) => (match o1[k]?, dats xs with
    | some fo, some ds => if ds.length + 1 = n then (match f fo ds with
      | some (d, fo') => some (.d d, o1.set k fo')
      | none => none) else none
    | _, _ => none)
  | _ => none
theorem sn_callF {n : Nat} {f : Fun2} {E : XK} {ta : TA} {a : AM} (ha : SnA ta a) (hfl : FlatF f := by exact flatF_run) : Sn (tCall (spF n f) [] E ta) (mCallF n f a) := by
  intro Z M s σ H h w o' e Q q
  unfold mCallF at e
  split at e
  · rename_i k xs o1 ea
    refine ha Z M s σ H h _ _ ea _ fun M1 vs H1 e1 h1 r1 => ?_
    split at e
    · rename_i fo ds hk hd
      split at e
      · rename_i hn
        split at e
        · rename_i d fo' hf
          cases e
          obtain ⟨fl1, fl2⟩ := hfl fo ds d fo' hf
          cases r1 with
          | cons hv ht =>
            obtain ⟨F, hF, rfl⟩ := hv
            have FM : F ∈ M1 := List.mem_of_getElem? hF
            show spF n f (_ ++ []) H1 Q E
            rw [List.append_nil]
            -- all that is hidden, but the object itself
            have eq1 : ∀ b, zz (fun a => Z a ∨ (a ∈ M1 ∧ a ≠ F)) [F] b → zz Z M1 b := fun b z => by
              rcases z with (z | z) | z
              · exact .inl z
              · exact .inr z.1
              · simp only [List.mem_singleton] at z; subst z; exact .inr FM
            have eq2 : ∀ b, zz Z M1 b → zz (fun a => Z a ∨ (a ∈ M1 ∧ a ≠ F)) [F] b := fun b z => by
              rcases z with z | z
              · exact .inl (.inl z)
              · by_cases hb : b = F
                · exact .inr (by simp [hb])
                · exact .inl (.inr ⟨z, hb⟩)
            refine ⟨fun a => Z a ∨ (a ∈ M1 ∧ a ≠ F), F, _, fo, ds, d, fo', rfl, ⟨fun b z => h1.r.zzh b (z.elim .inl fun z => .inr z.1), h1.r.tb⟩, ?_, Ro.mono eq1 (h1.r.ob k F fo hF hk) fl1, RpA.less eq1 (dats_ok ht hd), hn, hf, fun v H' kp ro rv => ?_⟩
            · rintro (z | z)
              · exact h1.r.nz F FM z
              · exact z.2 rfl
            have dom : ∀ b, Has H1 b → Has H' b := kp.dom
            have ex : Ext M1 H1 M1 H' := ⟨⟨[], by simp⟩, fun b hb _ => hb, fun b o hb e t => kp.at_ b o (fun z => hb (z ▸ FM)) e t, dom, kp.tab⟩
            have ex2 : Ex2 M1 H1 M1 H' := ⟨ex, rfl⟩
            have rob2 : Rob Z M1 (o1.set k fo') H' := by
              refine ⟨h1.r.nd, fun b hb => dom b (h1.r.zs b hb), h1.r.nz, ?_, fun j b y h2 h3 => ?_, kp.tab h1.r.tb⟩
              · rw [List.length_set]; exact h1.r.len
              · by_cases hj : j = k
                · subst hj
                  rw [hF] at h2
                  cases h2
                  have hl : j < o1.length := (List.getElem?_eq_some_iff.mp hk).1
                  rw [List.getElem?_set_self hl] at h3
                  cases h3
                  exact Ro.mono eq2 ro fl2
                · rw [List.getElem?_set_ne (Ne.symm hj)] at h3
                  have nb : b ≠ F := fun z => hj (nodup_get h1.r.nd h2 (z ▸ hF))
                  exact (h1.r.ob j b y h2 h3).ext ex fun o z t => kp.at_ b o nb z t
            exact q M1 v H' (e1.trans ex2) (h1.ext_on (o := o1.set k fo') ex rob2) (Rp.less eq2 rv)
        · cases e
      · cases e
    · cases e
  · cases e
end
end AP

namespace AP
noncomputable section
open PySem PySem.Spec PyProof.Rows L2 RZ
variable [Tbls] [Gd]
abbrev kC : Key := .inr (Str.ofString "cells")
abbrev kN : Key := .inr (Str.ofString "next")
abbrev kL : Key := .inr (Str.ofString "left")
abbrev kW : Key := .inr (Str.ofString "drawn")
def rIntA : List V → Hp → VK → Prop := fun xs H Q => (∃ i, xs = [.int i] ∧ Q (.int i) H) ∨ ∃ k, xs = [.bl k] ∧ Q (.int (if k then 1 else 0)) H
def tFeed (K : PySem.W.Frag) : TS := tRet (tDisp [(tC (.str (Str.ofString "cells")), tLc (iList K (tSl (rSlL K) (tVar 0) tNoPart (tPart (tC (.int 63))))) (gName 1) tYes (tCB rIntA (tCons (tVar 1) tNil)) [1]),
  (tC (.str (Str.ofString "next")), tC (.int 0)), (tC (.str (Str.ofString "left")), tC (.int 0)), (tC (.str (Str.ofString "drawn")), tC (.int 0))])
def feedV (c : Addr) : List (Key × V) := [(kC, .ref c), (kN, .int 0), (kL, .int 0), (kW, .int 0)]
def spFeed (K : PySem.W.Frag) : Sp := fun vs H Q _ => ∃ (a : Addr) (ns : List Int), vs = [.ref a] ∧ SqL K H a (ns.map V.int) ∧ ns.length ≤ 63 ∧
  ∀ p c H', H p = none → H c = none → c ≠ p → New H H' → H' p = some (.dK (feedV c)) → H' c = some (.lst (ns.map V.int)) → Q (.ref p) H'
theorem merge_feed (c : Addr) : mergeK [] (feedV c) = feedV c := by
  have a1 : ¬ kC = kN := by decide +kernel
  have a2 : ¬ kC = kL := by decide +kernel
  have a3 : ¬ kN = kL := by decide +kernel
  have a4 : ¬ kC = kW := by decide +kernel
  have a5 : ¬ kN = kW := by decide +kernel
  have a6 : ¬ kL = kW := by decide +kernel
  unfold mergeK feedV
  simp only [List.foldl_cons, List.foldl_nil]
  have e1 : putK [] kC (V.ref c) = [(kC, V.ref c)] := rfl
  have e2 : putK [(kC, V.ref c)] kN (V.int 0) = [(kC, V.ref c), (kN, V.int 0)] := putK_new _ (by rw [valV_neg a1]; rfl)
  have e3 : putK [(kC, V.ref c), (kN, V.int 0)] kL (V.int 0) = [(kC, V.ref c), (kN, V.int 0), (kL, V.int 0)] := putK_new _ (by rw [valV_neg a2, valV_neg a3]; rfl)
  have e4 : putK [(kC, V.ref c), (kN, V.int 0), (kL, V.int 0)] kW (V.int 0) = [(kC, V.ref c), (kN, V.int 0), (kL, V.int 0), (kW, V.int 0)] := putK_new _ (by rw [valV_neg a4, valV_neg a5, valV_neg a6]; rfl)
  rw [e1, e2, e3, e4]
def Stays (H H' : Hp) : Prop := ∀ a o, H a = some o → H' a = some o
theorem Stays.trans {H H1 H2 : Hp} (a : Stays H H1) (b : Stays H1 H2) : Stays H H2 := fun x o h => b x o (a x o h)
theorem Stays.upd {H : Hp} {p : Addr} {o : HO} (h : H p = none) : Stays H (upd H p o) := fun a u e => by
  rw [upd_ne (ne_of_none e h)]; exact e
theorem feed_reads {K : PySem.W.Frag} {vs : List V} {H : Hp} {Q : VK} {E : XK} (h : spFeed K vs H Q E) : tFeed K { nx := fun _ G => Q .non G, rt := Q } (L2.start [Str.ofString "_law_script", Str.ofString "_law_cell"] vs) H := by
  obtain ⟨a, ns, rfl, hS, hl, q⟩ := h
  intro p hp
  have n1 : Stays H (upd H p (.dK [])) := Stays.upd hp
  have seqN : ∀ {H1 H2 : Hp} {b : Addr} {xs : List V}, Stays H1 H2 → SqL K H1 b xs → SqL K H2 b xs := fun n s => by
    rcases s with (s | ⟨o, s⟩) | s
    · exact .inl (.inl (n _ _ s))
    · exact .inl (.inr ⟨o, n _ _ s⟩)
    · exact .inr s
  have s1 := seqN n1 hS
  -- the cells
  refine ⟨.ref a, rfl, (63 : Int), rfl, a, ns.map V.int, rfl, s1, fun b hb => ?_⟩
  have ecut : cutV (ns.map V.int) none (some 63) = ns.map V.int := by
    unfold cutV
    rw [HT.sIx_none, List.drop_zero, show HT.sIx (ns.map V.int).length (ns.map V.int).length (some (63 : Int)) = min 63 (ns.map V.int).length from HT.sIx_nat _ _ 63]
    rw [Nat.sub_zero, List.take_of_length_le]
    rw [List.length_map]; omega
  rw [ecut]
  have n2 : Stays (upd H p (.dK [])) (upd (upd H p (.dK [])) b (.lst (ns.map V.int))) := Stays.upd hb
  refine ⟨b, rfl, ⟨_, SqL.of upd_same⟩, fun D hD => ?_⟩
  have npD : p ≠ D := fun e => by rw [e] at n2; have := n2 D _ (show upd H D (.dK []) D = _ from upd_same); subst e; rw [this] at hD; cases hD
  have nbD : b ≠ D := fun e => by subst e; rw [upd_same] at hD; cases hD
  have npb : p ≠ b := fun e => by subst e; rw [upd_same] at hb; cases hb
  refine lc_list (xs := ns.map V.int) (fun i H2 => Stays H H2 ∧ H2 p = some (.dK []) ∧ H2 b = some (.lst (ns.map V.int)) ∧ H2 D = some (.lst ((ns.take i).map V.int))) ⟨?_, ?_, ?_, upd_same⟩ (fun i H2 _ z => SqL.of z.2.2.1) (fun i x H2 hx z => ?_) (fun H2 z => ?_)
  · exact (n1.trans n2).trans (Stays.upd hD)
  · rw [upd_ne npD, upd_ne npb, upd_same]
  · rw [upd_ne nbD, upd_same]
  · obtain ⟨z1, z2, z3, z4⟩ := z
    have hi : i < ns.length := by
      have := (List.getElem?_eq_some_iff.mp hx).1
      simpa using this
    have ex : x = .int ns[i] := by
      rw [List.getElem?_map, List.getElem?_eq_getElem hi] at hx
      exact (Option.some.inj hx).symm
    subst ex
    refine ⟨rfl, ?_⟩
    refine ⟨.int ns[i], rfl, .inl ⟨_, rfl, _, z4, ?_, ?_, ?_, ?_, ?_⟩⟩
    · rw [List.length_map, List.length_take]; exact Nat.lt_of_le_of_lt (Nat.min_le_right _ _) (Nat.lt_of_lt_of_le (by omega : ns.length < 100000) (small_line (Nat.le_refl _)))
    · intro c o e
      rw [upd_ne (fun e2 => by
        subst e2
        have h0 : H c = none := by
          cases h : H c with
          | none => rfl
          | some u =>
            have := (n1.trans n2) c u h
            rw [this] at hD; cases hD
        rw [h0] at e; cases e)]
      exact z1 c o e
    · rw [upd_ne npD]; exact z2
    · rw [upd_ne nbD]; exact z3
    · rw [upd_same, ← List.map_singleton, ← List.map_append]
      congr 3
      rw [List.take_add_one, List.getElem?_eq_getElem hi]
      rfl
  · obtain ⟨z1, z2, z3, z4⟩ := z
    rw [List.length_map, List.take_length] at z4
    have h0 : H D = none := by
      cases h : H D with
      | none => rfl
      | some u =>
        have := (n1.trans n2) D u h
        rw [this] at hD; cases hD
    refine ⟨z2, feedV D, rfl, by show 4 ≤ 15; omega, ?_⟩
    rw [merge_feed]
    refine q p D _ hp h0 npD.symm (New.of ?_) upd_same ?_
    · intro c o e
      rw [upd_ne (fun e2 => by subst e2; rw [hp] at e; cases e)]
      exact z1 c o e
    · rw [upd_ne npD.symm]; exact z4
def feed0 (ns : List Int) : MO := .k [(kC, .list (ns.map PyData.int)), (kN, .int 0), (kL, .int 0), (kW, .int 0)]
def tLaw (K : PySem.W.Frag) (t : TS) : TS := tSeq (tAsg (tCall (spFeed K) [] E0 (tCons (tVar 0) tNil)) (gName 1)) t
def spLaw (K : PySem.W.Frag) : Sp := fun vs H Q _ => ∃ (a : Addr) (ns : List Int), vs = [.ref a] ∧ LamX.Tabs Tbls.T H ∧ SqL K H a (ns.map V.int) ∧ ns.length ≤ 63 ∧ ∀ H', Q (.bl true) H'
def lawOk (N : Nat) (m : SM) : Prop := ∀ ns : List Int, ns.length ≤ 63 → ∃ o, m ⟨none :: some (.m 0) :: List.replicate (N - 2) none, [feed0 ns]⟩ = some (.rt (.d (.bool true)) o)
theorem law_reads {K : PySem.W.Frag} {N : List Str} {t : TS} {m : SM} (hN : 2 ≤ N.length) (hm : SnS t m) (ok : lawOk N.length m) {vs : List V} {H : Hp} {Q : VK} {E : XK} (h : spLaw K vs H Q E) : tLaw K t { nx := fun _ G => Q .non G, rt := Q } (L2.start N vs) H := by
  obtain ⟨a, ns, rfl, hT, hS, hl, q⟩ := h
  obtain ⟨o, ho⟩ := ok ns hl
  refine ⟨.ref a, rfl, ?_⟩
  refine ⟨a, ns, rfl, hS, hl, fun p c H' hp hc ncp nw h1 h2 => ?_⟩
  show t _ _ _
  refine hm (fun _ => False) [p] ⟨none :: some (.m 0) :: List.replicate (N.length - 2) none, [feed0 ns]⟩ _ H' ⟨⟨by simp, fun _ z => z.elim, by simp, rfl, fun k b x e1 e2 => ?_, nw.tab hT⟩, fun i sv e => ?_, ?_⟩ _ ho _ ?_
  · cases k with
    | succ k => simp at e1
    | zero =>
      simp at e1 e2
      subst e1; subst e2
      refine ⟨feedV c, h1, ?_⟩
      have nz : ¬ zz (fun _ => False) [p] c := fun z => z.elim id fun z => ncp (by simpa using z)
      exact .cons (.lst nz h2 (rpA_ints ns)) (.cons (.int 0) (.cons (.int 0) (.cons (.int 0) .nil)))
  · cases i with
    | zero => simp at e
    | succ i =>
      cases i with
      | zero =>
        simp at e
        subst e
        refine ⟨.ref p, ?_, p, rfl, rfl⟩
        have hl2 : 1 < (L2.start N [V.ref a]).length := by simp [L2.start]; omega
        rw [List.getElem?_set_self hl2]
      | succ i =>
        simp [List.getElem?_replicate] at e
  · simp [L2.start]; omega
  · intro M' v H2 e r rv
    have rv2 : Rp _ H2 v (.bool true) := rv
    cases rv2
    exact q H2
section
variable {P : Program} {w : World} {K : PySem.W.Frag} {mg : Str → Option Value} {base : Heap} {x qual : Str} {params : Arguments} {body : List Stmt} {scope : Scope} {dvs : List V} {kws : List (Str × V)} {f : Addr} {fd : FuncData}
theorem def_feed0 {ps : List Str} {k : Nat} (F : FunD K x qual params body scope dvs kws f fd) (sc : FnScope [Str.ofString "_law_script", Str.ofString "_law_cell"] ps scope) (h1 : ps.length = 1)
    (reading : ∀ (cdv : Value), fd.code = cdv → ∀ (A : Around) (outer : List Env) (s : Shared) (H : Hp) (E : XK), GOk A → Room k (A.deeper (envOfC qual scope s.heap.objs.size f cdv)) → PSs (cxOf CX0 P w K mg base [Str.ofString "_law_script", Str.ofString "_law_cell"] qual scope f cdv A outer s H E) body (tFeed K)) :
    FnG P w K mg base CX0 (k + 1) f fd ps (spFeed K) :=
  fnG_ok F sc (fun vs H Q E h => by obtain ⟨a, ns, rfl, _⟩ := h; exact h1.symm) fun cdv hv A outer s H vs Q E hg hr h => ⟨tFeed K, reading cdv hv A outer s H E hg hr, feed_reads h⟩
theorem def_law {N ps : List Str} {k : Nat} {t : TS} {m : SM} (F : FunD K x qual params body scope dvs kws f fd) (sc : FnScope N ps scope) (h1 : ps.length = 1) (hN : 2 ≤ N.length)
    (reading : ∀ (cdv : Value), fd.code = cdv → ∀ (A : Around) (outer : List Env) (s : Shared) (H : Hp) (E : XK), GOk A → Room k (A.deeper (envOfC qual scope s.heap.objs.size f cdv)) → PSs (cxOf CX0 P w K mg base N qual scope f cdv A outer s H E) body (tLaw K t))
    (hm : SnS t m) (ok : lawOk N.length m) : FnG P w K mg base CX0 (k + 1) f fd ps (spLaw K) :=
  fnG_ok F sc (fun vs H Q E h => by obtain ⟨a, ns, rfl, _⟩ := h; exact h1.symm) fun cdv hv A outer s H vs Q E hg hr h => ⟨tLaw K t, reading cdv hv A outer s H E hg hr, law_reads hN hm ok h⟩
end
abbrev noTbls : Tbls := ⟨[]⟩
omit [Tbls] in
omit [Tbls] in
end
end AP

namespace AP
noncomputable section
open PySem PySem.Spec PyProof.Rows L2 RZ
variable [Tbls] [Gd]
def gRepr : List D → Option D
  | [d] => if (noD d && PyData.showable d && !d.hasDict && decide (d.shown.length ≤ 100000) && decide (d.depth ≤ 60)) = true then some (.str d.shown) else none
  | _ => none
theorem rc_repr {K : PySem.W.Frag} : RCD (rRepr K) gRepr := by
  intro Z H hz vs ds d r e Q q
  unfold gRepr at e
  split at e
  · rename_i x
    split at e
    · rename_i h
      cases e
      simp only [Bool.and_eq_true, decide_eq_true_eq, Bool.not_eq_true'] at h
      obtain ⟨⟨⟨⟨h0, h1⟩, h2⟩, h3⟩, h4⟩ := h
      cases r with
      | cons hv t =>
        cases t
        exact ⟨_, x, rfl, hv.dp h0, h1, h2, small_line h3, h4, q _ H (New.refl H) (.str _)⟩
    · cases e
  · cases e
def gMul : D → D → Option D := g2I (fun i j => (decide (-(2 ^ 64) < i) && decide (i < 2 ^ 64)) || (decide (-(2 ^ 64) < j) && decide (j < 2 ^ 64))) fun i j => .int (i * j)
theorem r2_mul : R2D (rI CMul fun i j => .int (i * j)) gMul := r2_I fun i j h => by
  simp only [Bool.or_eq_true, Bool.and_eq_true, decide_eq_true_eq] at h
  exact h
def gDiv : D → D → Option D := g2I (fun _ j => decide (0 < j) && decide (j < 1073741824)) fun i j => .int (i / j)
theorem r2_div : R2D (rI CDiv fun i j => .int (i / j)) gDiv := r2_I fun i j h => by
  simp only [Bool.and_eq_true, decide_eq_true_eq] at h
  exact h
def gMod : D → D → Option D := g2I (fun _ j => decide (0 < j)) fun i j => .int (i % j)
theorem r2_mod : R2D (rI (fun _ j => 0 < j) fun i j => .int (i % j)) gMod := r2_I fun i j h => by
  simpa using h
def gPow : D → D → Option D := g2I (fun i j => decide (0 ≤ j) && decide (j ≤ 1000000) && decide (i.natAbs < 2 ^ 64)) fun i j => .int (i ^ j.toNat)
theorem r2_pow : R2D (rI CPow fun i j => .int (i ^ j.toNat)) gPow := r2_I fun i j h => by
  simp only [Bool.and_eq_true, decide_eq_true_eq] at h
  exact ⟨h.1.1, h.1.2, h.2⟩
def gNeg : D → Option D
  | .int i => some (.int (-i))
  | _ => none
theorem r1_neg : R1D (rU fun i => .int (-i)) gNeg := by
  intro Z H hz v1 d1 d r1 e Q q
  unfold gNeg at e
  split at e
  · cases e
    cases r1
    exact ⟨_, rfl, q _ H (New.refl H) (.int _)⟩
  · cases e
section
variable {J : It} {n : Nat} {G : Hp → Prop} {Y : Nat → Hp → V → Hp → Prop}
theorem dc_itA (w : L2.Walk J n G Y) {g : TG} {tt : TT} {tk tv : TE} {us : List Nat} {τ : L2.St} {h1 : Hp} {C : Addr} {Fn : Hp → Prop} (Ti : Nat → Hp → Prop) (t0 : Ti 0 (upd h1 C (.dK []))) (tG : ∀ i h, i ≤ n → Ti i h → G h)
    (step : ∀ i x h h', i < n → Ti i h → Y i h x h' → g x (wipe τ us) h' fun τ2 h2 => wipe τ2 us = wipe τ us ∧ tt τ2 h2 fun b h3 =>
      if b = true then tk τ2 h3 fun y h4 => tv τ2 h4 fun z h5 => ∃ kvs k, y = kV k ∧ h5 C = some (.dK kvs) ∧ kvs.length < sizeLine ∧ Ti (i + 1) (upd h5 C (.dK (putK kvs k z))) else Ti (i + 1) h3) (tn : ∀ h, Ti n h → Fn h) :
    ∃ U : Nat → Nat → Hp → Prop, (∃ m, U 0 m (upd h1 C (.dK []))) ∧ ∀ i m h, U i m h →
      (J.stop i h ∧ Fn h) ∨ (J.go i h ∧ ∃ Nx : Hp → Prop, (∀ h', Nx h' → ∃ m', m' < m ∧ U (i + 1) m' h') ∧ ∀ x h', J.yld i h x h' → g x (wipe τ us) h' fun τ2 h2 => wipe τ2 us = wipe τ us ∧ tt τ2 h2 fun b h3 =>
        if b = true then tk τ2 h3 fun y h4 => tv τ2 h4 fun z h5 => ∃ kvs k, y = kV k ∧ h5 C = some (.dK kvs) ∧ kvs.length < sizeLine ∧ Nx (upd h5 C (.dK (putK kvs k z))) else Nx h3) := by
  refine ⟨fun i left h => left = n - i ∧ i ≤ n ∧ Ti i h, ⟨n, (Nat.sub_zero n).symm, Nat.zero_le _, t0⟩, ?_⟩
  rintro i left h ⟨rfl, hle, p⟩
  have gh := tG i h hle p
  rcases Nat.lt_or_ge i n with hn | hn
  · exact .inr ⟨w.goes i h hn gh, Ti (i + 1), fun h' p' => ⟨n - (i + 1), by omega, rfl, hn, p'⟩, fun x h' y => step i x h h' hn p (w.yields i h x h' hn gh y)⟩
  · obtain rfl : i = n := Nat.le_antisymm hle hn
    exact .inl ⟨w.stops h gh, tn h p⟩
end
def dcLoop (k : Nat) (g : GM) (c : TM) (ek ev : EM) (τ : List (Option SV)) : List D → List MO → Option (List MO)
  | [], o => some o
  | d :: r, o => match g (.d d) ⟨τ, o⟩ with
    | none => none
    | some s2 => match c s2 with
      | none => none
      | some (false, o3) => dcLoop k g c ek ev τ r o3
      | some (true, o3) => match ek (s2.on o3) with
        | some (.d y, o4) => (match ev (s2.on o4) with
          | some (.d x, o5) => (match toKey y, o5[k]? with
            | some key, some (.k ps) => if ps.length < 100000 ∧ (ps.map (·.1)).Nodup then dcLoop k g c ek ev τ r (o5.set k (.k (putD ps key x))) else none
            | _, _ => none)
          | _ => none)
        | _ => none
def mDc (im : IM) (g : GM) (c : TM) (ek ev : EM) (vs : List Nat) : NM := fun s => match im s with
  | none => none
  | some (items, o1) => match dcLoop o1.length g c ek ev (wipeS s.σ vs) items (o1 ++ [.k []]) with
    | none => none
    | some oF => (match oF[o1.length]? with
      | some (.k ps) => some (.k ps, oF.take o1.length)
      | _ => none)
theorem sn_dc {wi : TI} {tg : TG} {tt : TT} {tk te : TE} {vs : List Nat} {im : IM} {g : GM} {c : TM} {ek e : EM} (hi : SnI wi im) (hg : SnG tg g) (gk : GK vs tg) (hc : SnT tt c) (hk : Sn tk ek) (he : Sn te e) : SnN (tDc wi tg tt tk te vs) (mDc im g c ek e vs) := by
  intro Z M s σ H h r o' ev Q q
  unfold mDc at ev
  split at ev
  · cases ev
  · rename_i items o1 ei
    split at ev
    · cases ev
    · rename_i oF el
      split at ev
      · rename_i acc hacc
        cases ev
        refine hi Z M s σ H h items o1 ei _ fun J H1 e1 h1 src => ?_
        obtain ⟨G, Y, w, hG, hY⟩ := src
        intro Dl hD
        have k1 : o1.length = M.length := h1.r.len
        obtain ⟨n1, n2⟩ := own_new (ob := .dK []) (r := .k []) h1 hD ⟨[], rfl, .nil⟩
        have w1 := rel_wipe n1 vs
        have atD : ∀ M2 : List Addr, M2 = M ++ [Dl] → M2[o1.length]? = some Dl := fun M2 e => by
          rw [e, k1, List.getElem?_append_right (Nat.le_refl _)]; simp
        refine dc_itA w (fun i H2 => ∃ o2, Ext M H1 (M ++ [Dl]) H2 ∧ Rel Z (M ++ [Dl]) ⟨wipeS s.σ vs, o2⟩ (wipe σ vs) H2 ∧ dcLoop o1.length g c ek e (wipeS s.σ vs) (items.drop i) o2 = some oF)
          ⟨_, n2, w1, el⟩ (fun i H2 _ ⟨o2, x, _⟩ => hG _ H2 x) ?_ ?_
        · rintro i x H2 H3 hin ⟨o2, e2, h2, l2⟩ hy
          obtain ⟨nw, d, hd, rd⟩ := hY i H2 x H3 (M ++ [Dl]) e2 h2.r.zzd hin hy
          have edrop : items.drop i = d :: items.drop (i + 1) := by
            rw [List.drop_eq_getElem_cons hin]
            congr 1
            have z := List.getElem?_eq_getElem hin
            rw [hd] at z
            exact (Option.some.inj z).symm
          rw [edrop] at l2
          unfold dcLoop at l2
          split at l2
          · cases l2
          · rename_i s3 es
            refine gk.kept _ _ _ _ ?_
            refine hg Z _ _ _ H3 (h2.new nw) x (.d d) rd s3 es _ fun M4 σ4 H4 ⟨e4, m4⟩ h4 w4 => ?_
            subst m4
            rw [wipe_wipe σ vs vs fun _ z => z] at w4
            refine ⟨w4, ?_⟩
            have e24 : Ext M H1 (M ++ [Dl]) H4 := (e2.trans (Ext.new nw)).trans e4
            have back : ∀ {o5 : List MO} {H5 : Hp}, Ext (M ++ [Dl]) H4 (M ++ [Dl]) H5 → Rob Z (M ++ [Dl]) o5 H5 → Rel Z (M ++ [Dl]) ⟨wipeS s.σ vs, o5⟩ (wipe σ vs) H5 := fun {o5 H5} e5 r5 =>
              (h2.ext_on (o := o5) (((Ext.new nw).trans e4).trans e5) r5)
            split at l2
            · cases l2
            · rename_i o5 ec
              refine hc Z _ s3 σ4 H4 h4 _ _ ec _ fun M5 H5 ⟨e5, m5⟩ h5 => ?_
              subst m5
              rw [if_neg (by decide)]
              exact ⟨o5, e24.trans e5, back e5 h5.r, l2⟩
            · rename_i o5 ec
              refine hc Z _ s3 σ4 H4 h4 _ _ ec _ fun M5 H5 ⟨e5, m5⟩ h5 => ?_
              subst m5
              rw [if_pos rfl]
              split at l2
              · rename_i y6 o6 ek6
                refine hk Z _ (s3.on o5) σ4 H5 h5 _ _ ek6 _ fun M6 v6 H6 ⟨e6, m6⟩ h6 r6 => ?_
                subst m6
                split at l2
                · rename_i x7 o7 ee
                  refine he Z _ (s3.on o6) σ4 H6 h6 _ _ ee _ fun M7 v7 H7 ⟨e7, m7⟩ h7 r7 => ?_
                  subst m7
                  split at l2
                  · rename_i key ps hkey hps
                    split at l2
                    · rename_i hl
                      obtain ⟨kvs, hx, rx⟩ := h7.r.ob o1.length Dl _ (atD _ rfl) hps
                      have hv6 : v6 = kV key := key_rt (Rp.rt r6) hkey
                      subst hv6
                      have hlen : kvs.length = ps.length := by rw [rx.length]; simp [kvD]
                      obtain ⟨g1, g2⟩ := own_mut (ob := .dK (putK kvs key v7)) (r := .k (putD ps key x7)) h7 (atD _ rfl) ⟨_, rfl, rpK_put r7 rx hl.2⟩
                      exact ⟨kvs, key, rfl, hx, Nat.lt_of_lt_of_le (by rw [hlen]; exact hl.1) (small_line (Nat.le_refl _)), _, (((e24.trans e5).trans e6).trans e7).trans g2, back (((e5.trans e6).trans e7).trans g2) g1.r, l2⟩
                    · cases l2
                  · cases l2
                · cases l2
              · cases l2
        · rintro H2 ⟨o2, e2, h2, l2⟩
          rw [List.drop_length] at l2
          unfold dcLoop at l2
          cases l2
          have hl : oF.length = o1.length + 1 := by
            have z := h2.r.len
            simp at z
            rw [k1]; exact z
          have eo : oF.take o1.length ++ [.k acc] = oF := by
            have z := List.take_append_getElem (show o1.length < oF.length by omega)
            have z2 := List.getElem?_eq_getElem (show o1.length < oF.length by omega)
            rw [hacc] at z2
            rw [Option.some.inj z2, z, List.take_of_length_le (by omega)]
          refine q M Dl H2 rfl (e1.trans e2) ?_
          rw [eo]
          exact h.ext_on (o := oF) (e1.trans e2) h2.r
      · cases ev
end
end AP

namespace AP
noncomputable section
open PySem PySem.Spec PyProof.Rows L2 RZ
variable [Tbls] [Gd]
section
variable {X : Cx}
theorem ps_setDc {i : Nat} {y : Str} {py : Pos} {kx vx tg iter : Expr} {ifs : List Expr} {scope : Scope} {own : List (Str × Nat)} {cpos spos : Pos} {wi : TI} {g : TG} {tt : TT} {tk tv : TE}
    (hc : X.calm = true) (nd : X.N.Nodup) (hy : X.N[i]? = some y) (yl : X.env.scope.names.lookup y = some .local)
    (sw : swapsWith (.DictComp kx vx [⟨tg, iter, ifs, 0⟩] scope cpos) (some (.Name y py)) spos.line X.env = pure true) (hi : PI X tg iter wi) (ok : BlkOk X.N X.env.scope scope own)
    (hg : ∀ (s : Shared) (h : Hp) (C : Addr) (cl : List (Str × Addr)) (fp : List Addr), PG (X.blk s h scope (compEnvC scope cl C X.env) fp) tg g)
    (ht : ∀ (s : Shared) (h : Hp) (C : Addr) (cl : List (Str × Addr)) (fp : List Addr), PTs (X.blk s h scope (compEnvC scope cl C X.env) fp) ifs tt)
    (hk : ∀ (s : Shared) (h : Hp) (C : Addr) (cl : List (Str × Addr)) (fp : List Addr), PE (X.blk s h scope (compEnvC scope cl C X.env) fp) kx tk)
    (he : ∀ (s : Shared) (h : Hp) (C : Addr) (cl : List (Str × Addr)) (fp : List Addr), PE (X.blk s h scope (compEnvC scope cl C X.env) fp) vx tv)
    (hs : ∀ x, foldedSetIterable iter X.env x = pure x := by intro _; rfl) :
    PS X (.Assign [.Name y py] (.DictComp kx vx [⟨tg, iter, ifs, 0⟩] scope cpos) spos) (tAsg (tDc wi g tt tk tv (own.map (·.2))) (gName i)) := by
  refine ⟨fun pins s σ H D I h => ?_⟩
  rw [exec_Assign_Name_used _ _ _ _ sw]
  refine wpAny_bind (wpAny_standAt (wpAny_bind ?_))
  show wpAny _ X.A (do let _ ← comprehension (.DictComp kx vx [⟨tg, iter, ifs, 0⟩] scope cpos) scope X.env (firstIterPos [⟨tg, iter, ifs, 0⟩] cpos) newDict false (eval iter X.env) (some (assign (.Name y py) X.env))) _ _ s
  have h' : tDc wi g tt tk tv (own.map (·.2)) σ H (fun x H1 => gName i x σ H1 D.nx) := h
  refine wpAny_bind (thn (dc_core (Qf := fun _ s' => SP X pins D .next s') hc nd I hi ok hg ht hk he hs h' fun L C s' m H' I' q hn f => ?_) fun _ s' hq => wpAny_pure (wpAny_pure hq))
  show wpAny _ _ (assign (.Name y py) X.env (.ref L)) _ _ _
  refine wpAny_assign_Name (store_ok2 (v := V.ref L) I' nd hy (.inl yl) rfl (fun s2 I2 z => ?_) (.inr yl))
  obtain ⟨a, sb, ha⟩ := z
  obtain ⟨g0, g1, g2, g3, g4, g5⟩ := f
  have ne : C ≠ a := ha.elim (fun z => by rw [z]; exact g1) fun z e => g4 y a z e.symm
  exact ⟨m, hn.sameBut sb ne, fun h3 sb3 => ⟨_, H', I2.turned (t' := s2.toks) (fun b o hb e => (sb3.2 b hb).trans e) g0 g1 g3 g4 g5, q⟩⟩
theorem swD_true {kx vx : Expr} {gs : List Comprehension} {scope : Scope} {cpos py : Pos} {y : Str} {l : Nat} {env : Env} (hk : env.scope.kind = .function) (hy : env.scope.names.lookup y = some .local) (hl : (py.line == cpos.line) = true)
    (ha : (scope.names.any fun (n, k) => n == y && (k == .local || k == .cell)) = false) : swapsWith (.DictComp kx vx gs scope cpos) (some (.Name y py)) l env = pure true := by
  have k1 : env.kindOf y = some .local := hy
  have k2 : env.blockKind = .function := by unfold Env.blockKind; rw [hk]; rfl
  unfold swapsWith
  simp only [k2, k1, ha, Expr.pos, hl]
  rfl
def rAddU (K : PySem.W.Frag) : R2 := fun x y H Q => rI0 (fun i j => .int (i + j)) x y H Q ∨ ((∃ i j, x = .str i ∧ y = .str j ∧ i.length + j.length ≤ sizeLine ∧ Q (.str (i ++ j)) H) ∨ (rCat x y H Q ∨ rCatF K x y H Q))
theorem op_addU : OpR X (binaryOp .Add) (rAddU X.K) := op_add.or (op_add_str.or (op_cat.or op_catF))
def gAddU (a b : D) : Option D := oel (g2I (fun _ _ => true) (fun i j => .int (i + j)) a b) (oel (gAddS a b) (oel (gAddL a b) (gAddT a b)))
theorem r2_addU {K : PySem.W.Frag} : R2D (rAddU K) gAddU := r2_I0.or (r2_addS.or (r2_addL.or r2_addT))
def rLtU : R2 := fun x y H Q => rI0 (fun i j => .bl (decide (i < j))) x y H Q ∨ ∃ i j, x = .str i ∧ y = .str j ∧ Q (.bl (decide (i.cps.toList < j.cps.toList))) H
theorem op_ltU : OpR X (compareOp .Lt) rLtU := op_lt.or op_lt_str
def gLtU (a b : D) : Option D := oel (g2I (fun _ _ => true) (fun i j => .bool (decide (i < j))) a b) (g2S (fun i j => some (.bool (decide (i.cps.toList < j.cps.toList)))) a b)
theorem r2_ltU : R2D rLtU gLtU := r2_B0.or r2_Sb
def rLeU : R2 := fun x y H Q => rI0 (fun i j => .bl (decide (i ≤ j))) x y H Q ∨ ∃ i j, x = .str i ∧ y = .str j ∧ Q (.bl (!decide (j.cps.toList < i.cps.toList))) H
theorem op_leU : OpR X (compareOp .LtE) rLeU := op_le.or op_le_str
def gLeU (a b : D) : Option D := oel (g2I (fun _ _ => true) (fun i j => .bool (decide (i ≤ j))) a b) (g2S (fun i j => some (.bool (!decide (j.cps.toList < i.cps.toList)))) a b)
theorem r2_leU : R2D rLeU gLeU := r2_B0.or r2_Sb
def rGtU : R2 := fun x y H Q => rI0 (fun i j => .bl (decide (j < i))) x y H Q ∨ ∃ i j, x = .str i ∧ y = .str j ∧ Q (.bl (decide (j.cps.toList < i.cps.toList))) H
theorem op_gtU : OpR X (compareOp .Gt) rGtU := op_gt.or op_gt_str
def gGtU (a b : D) : Option D := oel (g2I (fun _ _ => true) (fun i j => .bool (decide (j < i))) a b) (g2S (fun i j => some (.bool (decide (j.cps.toList < i.cps.toList)))) a b)
theorem r2_gtU : R2D rGtU gGtU := r2_B0.or r2_Sb
def rGeU : R2 := fun x y H Q => rI0 (fun i j => .bl (decide (j ≤ i))) x y H Q ∨ ∃ i j, x = .str i ∧ y = .str j ∧ Q (.bl (!decide (i.cps.toList < j.cps.toList))) H
theorem op_geU : OpR X (compareOp .GtE) rGeU := op_ge.or op_ge_str
def gGeU (a b : D) : Option D := oel (g2I (fun _ _ => true) (fun i j => .bool (decide (j ≤ i))) a b) (g2S (fun i j => some (.bool (!decide (i.cps.toList < j.cps.toList)))) a b)
theorem r2_geU : R2D rGeU gGeU := r2_B0.or r2_Sb
def rEqU (K : PySem.W.Frag) : R2 := fun x y H Q => rEq x y H Q ∨ rEqD K x y H Q
def rNeU (K : PySem.W.Frag) : R2 := fun x y H Q => rNe x y H Q ∨ rNeD K x y H Q
def rSub : R2 := rI0 fun i j => .int (i - j)
def gSub : D → D → Option D := g2I (fun _ _ => true) fun i j => .int (i - j)
theorem r2_sub : R2D rSub gSub := r2_I0
def rMul : R2 := rI CMul fun i j => .int (i * j)
def rDiv : R2 := rI CDiv fun i j => .int (i / j)
def rMod : R2 := rI (fun _ j => 0 < j) fun i j => .int (i % j)
def rPow : R2 := rI CPow fun i j => .int (i ^ j.toNat)
def rNeg : V → Hp → VK → Prop := rU fun i => .int (-i)
abbrev rTupA (K : PySem.W.Frag) : List V → Hp → VK → Prop := rTupleF K
def rLstA (K : PySem.W.Frag) : List V → Hp → VK → Prop := fun xs H Q => ∃ p ys, xs = [.ref p] ∧ (SqL K H p ys ∨ SqT K H p ys) ∧ ∀ l, H l = none → Q (.ref l) (upd H l (.lst ys))
theorem hu1 {k : Nat} {A : Around} (r : Room k A) : A.units + 1 < cLine := by have := r.un; omega
theorem hu64 {k : Nat} {A : Around} (r : Room k A) : A.units + 64 < cLine := by have := r.un; omega
theorem hu65 {k : Nat} {A : Around} (r : Room k A) : A.units + 65 < cLine := by have := r.un; omega
theorem op_eqU (hu : X.A.units + 64 < cLine) : OpR X (compareOp .Eq) (rEqU X.K) := op_eq.or (op_eqD hu)
theorem op_neU (hu : X.A.units + 64 < cLine) : OpR X (compareOp .NotEq) (rNeU X.K) := op_ne.or (op_neD hu)
theorem r2_eqU {K : PySem.W.Frag} : R2D (rEqU K) gEq := r2_eq
theorem r2_neU {K : PySem.W.Frag} : R2D (rNeU K) gNe := r2_ne
end
structure Cal (P : Program) (w : World) (K : PySem.W.Frag) (mg : Str → Option Value) (base : Heap) (x : Str) (k : Nat) (ps : List Str) (sp : Sp) (f : Addr) (fd : FuncData) : Prop where
  G : FnG P w K mg base CX0 k f fd ps sp
  m : mg x = some (.ref f)
  kp : PySem.W.keepIn K (.ref f) = true
  b : Binds K fd ps []
section
variable {X : Cx} {k j : Nat} {f : Addr} {fd : FuncData} {ps : List Str} {sp : Sp} {x : Str} {p pos : Pos} {e : Expr} {es : List Expr} {t : TA}
theorem pe_calC (C : Cal X.prog X.w X.K X.mg X.base x k ps sp f fd) (hg : GOk X.A) (hr : Room j X.A) (hj : k ≤ j) (hgl : Gl X x) (ha : PA X (e :: es) t) (hdb : (x == ("__debug__" : Str)) = false := by decide)
    (he : starEach (e :: es) X.env = (false, eval e X.env) :: starEach es X.env := by rfl) (hpl : (backTo pos (starEach es X.env)).any (·.1) = false := by rfl) :
    PE X (.Call (.Name x p) (e :: es) [] pos) (tCall sp [] E0 t) :=
  pe_callG C.G hg (hr.mono hj) hgl C.m C.kp C.b .nil pass0 ha hdb he hpl
theorem pe_cal0 (C : Cal X.prog X.w X.K X.mg X.base x k ps sp f fd) (hg : GOk X.A) (hr : Room j X.A) (hj : k ≤ j) (hgl : Gl X x) (hdb : (x == ("__debug__" : Str)) = false := by decide) :
    PE X (.Call (.Name x p) [] [] pos) (tCall sp [] E0 tNil) :=
  pe_callG0 C.G hg (hr.mono hj) hgl C.m C.kp C.b .nil pass0 hdb
theorem pe_calK {ix : List Nat} {kws : List Keyword} {tk : TA} {ks : List Str} (C : Cal X.prog X.w X.K X.mg X.base x k ps sp f fd) (hg : GOk X.A) (hr : Room j X.A) (hj : k ≤ j) (hgl : Gl X x)
    (hb : ∀ (s : Shared) (ws : List Value), (perm ix ws).length = ps.length → BindsTo s fd ⟨[], ks.zip ws⟩ (ps.zip (perm ix ws))) (hkw : PK X kws tk)
    (hall : (backToKw pos (keywordEach kws X.env)).all (·.1.isSome) = true := by rfl) (hks : (backToKw pos (keywordEach kws X.env)).filterMap (·.1) = ks := by rfl) (hdb : (x == ("__debug__" : Str)) = false := by decide)
    (hpl : ((backTo pos (starEach [] X.env)).any (·.1) || (backToKw pos (keywordEach kws X.env)).any (·.1.isNone)) = false := by rfl) :
    PE X (.Call (.Name x p) [] kws pos) (tCallP sp ix E0 tk) :=
  pe_callGk C.G hg (hr.mono hj) hgl C.m C.kp hb pass0 hkw hall hks hdb hpl
end
end
end AP

namespace AP
noncomputable section
open PySem PySem.Spec PyProof.Rows L2 RZ
variable [Tbls] [Gd]
def iAny (K : PySem.W.Frag) (te : TE) : TI := fun σ H R => iSeq K te σ H R ∨ iStr te σ H R
theorem pi_any {X : Cx} {tg e : Expr} {te : TE} (he : PE X e te) : PI X tg e (iAny X.K te) := pi_or (pi_or (pi_list he) (pi_tup he)) (pi_str he)
def mAnyI (a : EM) : IM := fun s => match mItems a s with
  | some r => some r
  | none => mSigns a s
theorem si_any {K : PySem.W.Frag} {te : TE} {a : EM} (ha : Sn te a) : SnI (iAny K te) (mAnyI a) := by
  intro Z M s σ H h items o' e R f
  unfold mAnyI at e
  split at e
  · rename_i r hr
    cases e
    exact .inl (si_seq ha Z M s σ H h items o' hr R f)
  · exact .inr (si_str ha Z M s σ H h items o' e R f)
theorem kw_of {K : PySem.W.Frag} {x qual : Str} {params : Arguments} {body : List Stmt} {scope : Scope} {kws : List (Str × V)} {f : Addr} {fd : FuncData} {ps ks : List Str} {ix : List Nat} (F : FunD K x qual params body scope [] kws f fd)
    (h : ∀ (u1 u2 u3 : Value) (a1 : Option Addr) (u4 u5 : Value) (ws : List Value), (perm ix ws).length = ps.length → bindArgs (PySem.W.fnOf x qual params body scope .none u1 u2 u3 a1 u4 u5) ⟨[], ks.zip ws⟩ = pure (ps.zip (perm ix ws)))
    (s : Shared) (ws : List Value) (hl : (perm ix ws).length = ps.length) : BindsTo s fd ⟨[], ks.zip ws⟩ (ps.zip (perm ix ws)) := by
  obtain ⟨_, _, dV, u1, u2, u3, a1, u4, u5, _, e, _, _, hd, _⟩ := F.ex
  subst e
  rcases hd with ⟨_, e⟩ | ⟨e, _⟩
  · subst e; exact .of_eq (h u1 u2 u3 a1 u4 u5 ws hl)
  · exact absurd rfl e
end
end AP

namespace AP
noncomputable section
open PySem PySem.Spec PyProof.Rows L2 RZ
variable [Tbls] [Gd]
theorem loop_eval {g : GM} {b : SM} (P : Nat → S → Prop) : ∀ (items : List D) (k : Nat) (s : S), P k s →
    (∀ i d s, items[i]? = some d → P (k + i) s → ∃ s1 s2, g (.d d) s = some s1 ∧ b s1 = some (.nx s2) ∧ P (k + i + 1) s2) → ∃ s', loopM g b items s = some (.nx s') ∧ P (k + items.length) s'
  | [], k, s, h0, _ => ⟨s, rfl, h0⟩
  | d :: r, k, s, h0, h => by
    obtain ⟨s1, s2, h1, h2, h3⟩ := h 0 d s rfl h0
    obtain ⟨s', e, q⟩ := loop_eval P r (k + 1) s2 h3 fun i x t hi ht => by
      have := h (i + 1) x t (by simpa using hi) (by rw [show k + (i + 1) = k + 1 + i by omega]; exact ht)
      rw [show k + (i + 1) + 1 = k + 1 + i + 1 by omega] at this
      exact this
    refine ⟨s', ?_, by rw [List.length_cons, show k + (r.length + 1) = k + 1 + r.length by omega]; exact q⟩
    unfold loopM
    rw [h1]
    dsimp only
    rw [h2]
    exact e
theorem mFor_eval {im : IM} {g : GM} {b : SM} {s : S} {items : List D} {o1 : List MO} (P : Nat → S → Prop) (hi : im s = some (items, o1)) (h0 : P 0 (s.on o1))
    (h : ∀ i d s, items[i]? = some d → P i s → ∃ s1 s2, g (.d d) s = some s1 ∧ b s1 = some (.nx s2) ∧ P (i + 1) s2) : ∃ s', mFor im g b s = some (.nx s') ∧ P items.length s' := by
  unfold mFor
  rw [hi]
  obtain ⟨s', e, q⟩ := loop_eval P items 0 (s.on o1) h0 fun i d t hi ht => by
    rw [Nat.zero_add] at ht ⊢
    exact h i d t hi ht
  exact ⟨s', e, by simpa using q⟩
mutual
theorem noD_of : ∀ d : D, d.canLay0 = true → noD d = true
  | .none, _ => by simp only [noD]
  | .bool _, _ => by simp only [noD]
  | .int _, _ => by simp only [noD]
  | .str _, _ => by simp only [noD]
  | .list xs, h => by simp only [noD]; exact noDs_of xs (by simpa [PyData.canLay0] using h)
  | .tuple xs, h => by simp only [noD]; exact noDs_of xs (by simpa [PyData.canLay0] using h)
  | .dict _, h => by simp [PyData.canLay0] at h
theorem noDs_of : ∀ xs : List D, PyData.canLayAll0 xs = true → noDs xs = true
  | [], _ => by simp only [noDs]
  | x :: xs, h => by
    have h' : x.canLay0 = true ∧ PyData.canLayAll0 xs = true := by simpa [PyData.canLayAll0] using h
    simp only [noDs, noD_of x h'.1, noDs_of xs h'.2, Bool.and_self]
end
theorem shp_of {d : D} (h1 : d.canLay0 = true) (h2 : d.depth ≤ 64) : shp d = true := by
  simp only [shp, SeqAt.shaped, noD_of d h1, h1, decide_eq_true h2, Bool.and_self]
end
end AP

namespace AP
noncomputable section
open PySem PySem.Spec PyProof.Rows L2 RZ
variable [Tbls] [Gd]
def fdl (c n l w : D) : List (Key × D) := [(kC, c), (kN, n), (kL, l), (kW, w)]
theorem fk1 : ¬ kC = kN := by decide +kernel
theorem fk2 : ¬ kC = kL := by decide +kernel
theorem fk3 : ¬ kC = kW := by decide +kernel
theorem fk4 : ¬ kN = kL := by decide +kernel
theorem fk5 : ¬ kN = kW := by decide +kernel
theorem fk6 : ¬ kL = kW := by decide +kernel
theorem toKey_kD (k : Key) : toKey (kD k) = some k := by cases k <;> rfl
theorem getP_kv {ps : List (Key × D)} {k : Key} : getP (kvD ps) k = (ps.find? fun p => decide (p.1 = k)).map (·.2) := by
  induction ps with
  | nil => rfl
  | cons p r ih =>
    show (if toKey (kD p.1) = some k then some p.2 else getP (kvD r) k) = _
    rw [toKey_kD, List.find?_cons]
    by_cases h : p.1 = k
    · rw [if_pos (by rw [h])]; simp [h]
    · rw [if_neg (fun e => h (Option.some.inj e)), ih]; simp [h]
theorem fix (c n l w : D) (k : Key) (x : D) (hk : toKey x = some k) : gIx (.dict (kvD (fdl c n l w))) x = if kC = k then some c else if kN = k then some n else if kL = k then some l else if kW = k then some w else none := by
  have : gIx (.dict (kvD (fdl c n l w))) x = getP (kvD (fdl c n l w)) k := by simp only [gIx, hk]
  rw [this, getP_kv]
  unfold fdl
  simp only [List.find?_cons, List.find?_nil]
  by_cases h1 : kC = k
  · simp [h1]
  · by_cases h2 : kN = k
    · simp [h1, h2]
    · by_cases h3 : kL = k
      · simp [h1, h2, h3]
      · by_cases h4 : kW = k
        · simp [h1, h2, h3, h4]
        · simp [h1, h2, h3, h4]
end
end AP

namespace AP
noncomputable section
open PySem PySem.Spec PyProof.Rows L2 RZ
variable [Tbls] [Gd]
theorem strsOf_map : ∀ xs : List Str, strsOf (xs.map .str) = some xs
  | [] => rfl
  | x :: xs => by simp only [List.map_cons, strsOf, strsOf_map xs]
theorem strsOf_eq : ∀ {ds : List D} {xs : List Str}, strsOf ds = some xs → ds = xs.map .str
  | [], xs, h => by simp only [strsOf] at h; cases h; rfl
  | d :: ds, xs, h => by
    cases d with
    | str x =>
      simp only [strsOf] at h
      cases e : strsOf ds with
      | none => rw [e] at h; cases h
      | some ys => rw [e] at h; cases h; rw [strsOf_eq e]; rfl
    | _ => simp [strsOf] at h
theorem gSorted_strs {xs : List Str} (h : xs.length < 64) : gSorted [.list (xs.map .str)] = some (.list ((sortS xs).map .str)) := by
  simp only [gSorted, strsOf_map, h, if_true]
def T (xs : List Str) : D := .tuple (xs.map .str)
end
end AP

namespace AP
noncomputable section
open PySem PySem.Spec PyProof.Rows L2 RZ
variable [Tbls] [Gd]
section
variable {X : Cx} {e : Expr} {es : List Expr} {ta : TA} {p pos : Pos}
end

def tIni (K : PySem.W.Frag) (w1 w2 : Str) : TS := tSeq (tOst K w1 (tVar 0) (tVar 1)) (tOst K w2 (tVar 0) (tVar 2))
def spIni (K : PySem.W.Frag) (C : Addr) (w1 w2 : Str) : Sp := fun vs H Q _ => ∃ (a : Addr) (v1 v2 : V), vs = [.ref a, v1, v2] ∧ OexC K C ∧ PySem.W.findIn K (.ref C) w1 = some none ∧ PySem.W.findIn K (.ref C) w2 = some none ∧ H a = some (exo a C none) ∧
  ∀ dx, H dx = none → dx ≠ a → Q .non (upd (upd (upd H dx (exd dx [(w1, v1)])) a (exo a C (some dx))) dx (exd dx [(w2, v2), (w1, v1)]))
theorem ini_reads {K : PySem.W.Frag} {C : Addr} {w1 w2 : Str} {N : List Str} {vs : List V} {H : Hp} {Q : VK} {E : XK} (h : spIni K C w1 w2 vs H Q E) : tIni K w1 w2 { nx := fun _ G => Q .non G, rt := Q } (L2.start N vs) H := by
  obtain ⟨a, v1, v2, rfl, T, n1, n2, ha, q⟩ := h
  refine ⟨v1, rfl, .ref a, rfl, a, C, rfl, T, n1, .inl ⟨ha, fun dx hd ne => ?_⟩⟩
  refine ⟨v2, rfl, .ref a, rfl, a, C, rfl, T, n2, .inr ⟨dx, [(w1, v1)], upd_same, ?_, by show 1 ≤ 900; decide, q dx hd ne⟩⟩
  rw [upd_ne ne, upd_same]
section
variable {P : Program} {w : World} {K : PySem.W.Frag} {mg : Str → Option Value} {base : Heap} {x qual : Str} {params : Arguments} {body : List Stmt} {scope : Scope} {dvs : List V} {kws : List (Str × V)} {f : Addr} {fd : FuncData}
theorem def_ini {N ps : List Str} {k : Nat} {C : Addr} {w1 w2 : Str} (F : FunD K x qual params body scope dvs kws f fd) (sc : FnScope N ps scope) (h3 : ps.length = 3)
    (reading : ∀ (cdv : Value) (A : Around) (outer : List Env) (s : Shared) (H : Hp) (E : XK), Room k (A.deeper (envOfC qual scope s.heap.objs.size f cdv)) → PSs (cxOf CX0 P w K mg base N qual scope f cdv A outer s H E) body (tIni K w1 w2)) :
    FnOk P w K mg base CX0 (k + 1) f fd ps (spIni K C w1 w2) :=
  F.ok sc (fun vs H Q E h => by obtain ⟨a, v1, v2, rfl, _⟩ := h; exact h3.symm) fun cdv A outer s H vs Q E hr h => ⟨tIni K w1 w2, reading cdv A outer s H E hr, ini_reads h⟩
theorem def_iniH {CX : CXT} {N ps : List Str} {k : Nat} {C : Addr} {w1 w2 : Str} (F : FunD K x qual params body scope dvs kws f fd) (sc : FnScope N ps scope) (h3 : ps.length = 3)
    (reading : ∀ (cdv : Value) (A : Around) (outer : List Env) (s : Shared) (H : Hp) (E : XK) (p : Addr × Obj), PSs (L2H.cxH CX P w K mg base N qual scope f cdv A outer s H E p) body (tIni K w1 w2)) :
    L2H.FnH P w K mg base CX (k + 1) f fd ps (spIni K C w1 w2) := by
  obtain ⟨oc, od, dV, kV, doc, pm, an, cdv, ct, osl, e, lk, hcd, _, _⟩ := F.ex
  subst e
  exact L2H.fn_ofH lk hcd sc (fun vs H Q E h => by obtain ⟨a, v1, v2, rfl, _⟩ := h; exact h3.symm) fun A outer s H vs Q E p hr hc hsp => ⟨tIni K w1 w2, reading cdv A outer s H E p, ini_reads hsp⟩
end
structure RX (K : PySem.W.Frag) (Z : Zs) (H : Hp) (cls : Value) (d : Option Addr) (c : Str) (fs : List (Str × D)) : Prop where
  cl : cls = .ref (He.ga K c)
  fld : ∃ (dd : Addr) (kvs : List (Str × V)), d = some dd ∧ H dd = some (.xd kvs) ∧ kvs.map (·.1) = fs.map (·.1) ∧ RpA Z H (kvs.map (·.2)) (fs.map (·.2))
theorem nt_xd {fs : List (Str × V)} : nt (.xd fs) := fun _ z => nomatch z
inductive OX where
  | n (o : Out) | ex (c : Str) (fs : List (Str × D)) (s : S)
def FinX (K : PySem.W.Frag) (Z : Zs) (M : List Addr) (H : Hp) (W : WX) (E : Ends) : OX → Prop
  | .n o => Fin Z M H E o
  | .ex c fs s' => ∀ M' σ' H' cls d, Ext M H M' H' → Rel Z M' s' σ' H' → RX K (zz Z M') H' cls d c fs → W cls d σ' H'
theorem FinX.ext {K : PySem.W.Frag} {Z : Zs} {M M' : List Addr} {H H' : Hp} {W : WX} {E : Ends} {out : OX} (e : Ext M H M' H') (f : FinX K Z M H W E out) : FinX K Z M' H' W E out := by
  cases out with
  | n o => exact Fin.ext e f
  | ex c fs s => exact fun M2 σ2 H2 cls d e2 r x => f M2 σ2 H2 cls d (e.trans e2) r x
end
end AP

namespace AP
noncomputable section
open PySem PySem.Spec PyProof.Rows L2 RZ
variable [Tbls] [Gd]
inductive RD where
  | ok (d : D) | er (c : Str) (fs : List (Str × D))
theorem RX.less {K : PySem.W.Frag} {Z Z' : Zs} {H : Hp} {cls : Value} {d : Option Addr} {c : Str} {fs : List (Str × D)} (k : ∀ b, Z' b → Z b) (x : RX K Z H cls d c fs) : RX K Z' H cls d c fs := by
  obtain ⟨a, dd, kvs, q1, q2, q3, q4⟩ := x
  exact ⟨a, dd, kvs, q1, q2, q3, RpA.less k q4⟩
section
variable {P : Program} {w : World} {K : PySem.W.Frag} {mg : Str → Option Value} {base : Heap} {x qual : Str} {params : Arguments} {body : List Stmt} {scope : Scope} {dvs : List V} {kws : List (Str × V)} {f : Addr} {fd : FuncData}
end
inductive EO where
  | ok (v : SV) (o : List MO) | er (c : Str) (fs : List (Str × D)) (s : S)
end
end AP

namespace AP
noncomputable section
open PySem PySem.Spec PyProof.Rows L2 RZ
variable [Tbls] [Gd]
structure CalX (CX : CXT) (P : Program) (w : World) (K : PySem.W.Frag) (mg : Str → Option Value) (base : Heap) (x : Str) (k : Nat) (ps : List Str) (sp : Sp) (f : Addr) (fd : FuncData) : Prop where
  G : FnG P w K mg base CX k f fd ps sp
  m : mg x = some (.ref f)
  kp : PySem.W.keepIn K (.ref f) = true
  b : Binds K fd ps []
section
variable {X : Cx} {CX : CXT} {k j : Nat} {f : Addr} {fd : FuncData} {ps : List Str} {sp : Sp} {x : Str} {p pos : Pos} {e : Expr} {es : List Expr} {t : TA} {E : L2.St → XK} {E1 : XK}
end
end
end AP

namespace AP
noncomputable section
open PySem PySem.Spec PyProof.Rows L2 RZ
variable [Tbls] [Gd]
def rCntB (K : PySem.W.Frag) : V → List V → Hp → VK → Prop := fun x xs H Q => ∃ (p : Addr) (bs : List Bool) (k : Bool), x = .ref p ∧ xs = [.bl k] ∧ SqL K H p (bs.map V.bl) ∧ Q (.int (bs.count k : Nat)) H
section
variable {X : Cx}
end
structure ExI (K : PySem.W.Frag) (D : Addr) : Prop where
  cl : (PySem.W.clsIn K D).isSome = true
  hg : PySem.W.findIn K (.ref D) "__getattribute__" = some (some (.builtin "BaseException.__getattribute__"))
  hk : PySem.W.findIn K (.ref D) "__getattr__" = some none
  hs : PySem.W.subIn K (.ref D) (.type "BaseException") = some true
  ha : PySem.W.findIn K (.ref D) "__class__" = some (some (.builtin "object.__class__"))
  hn : PySem.W.specialIn K (.builtin "object.__class__") "__get__" = some (some (.builtin "getset_descriptor.__get__"))
  ht : PySem.W.takesIn K (.builtin "object.__class__") = some true
  hm : PySem.W.mroIn K D (.type "object") = some true
def rIsX (K : PySem.W.Frag) (cls : Value) (d : Option Addr) (a : Addr) : List V → Hp → VK → Prop := fun xs H Q => ∃ (D dd : Addr) (fs : List (Str × V)) (c : V) (cv : Value) (b : Bool), xs = [.ref a, c] ∧ cls = .ref D ∧ d = some dd ∧ H dd = some (.xd fs) ∧ ExI K D ∧
  (∀ u, RelV c u → u = cv) ∧ PySem.W.kitOne K (.ref D) cv = some b ∧ Q (.bl b) H
end
end AP

namespace AP
noncomputable section
open PySem PySem.Spec PyProof.Rows L2 RZ
variable [Tbls] [Gd]
def tIsE (K : PySem.W.Frag) (cls : Value) (d : Option Addr) (a : Addr) (c : V) : TE := tCB (rIsX K cls d a) (tCons (tVar 1) (tCons (tC c) tNil))
def cV (K : PySem.W.Frag) (C : Str) : V := .ref (He.ga K C)
structure Kits (K : PySem.W.Frag) (c : Str) (b1 b2 b3 : Bool) : Prop where
  ex : ExI K (He.ga K c)
  k1 : PySem.W.kitOne K (.ref (He.ga K c)) (.ref (He.ga K "NotUsable")) = some b1
  k2 : PySem.W.kitOne K (.ref (He.ga K c)) (.ref (He.ga K "InvalidPaper")) = some b2
  k3 : PySem.W.kitOne K (.ref (He.ga K c)) (.ref (He.ga K "InvalidText")) = some b3
  s1 : PySem.W.kitOne K (.ref (He.ga K c)) (.ref (He.ga K "NetError")) = some b1
  s2 : PySem.W.kitOne K (.ref (He.ga K c)) (.ref (He.ga K "PaperError")) = some b2
  s3 : PySem.W.kitOne K (.ref (He.ga K c)) (.ref (He.ga K "TextError")) = some b3
  ve : PySem.W.kitOne K (.ref (He.ga K c)) (.type "ValueError") = some true
  se : PySem.W.kitOne K (.ref (He.ga K c)) (.ref (He.ga K "SpreadError")) = some false
theorem isE_run {K : PySem.W.Frag} {Z : Zs} {H : Hp} {cls : Value} {d : Option Addr} {a : Addr} {c : Str} {fs : List (Str × D)} {cc : V} {cv : Value} {b : Bool} {σ : L2.St} {Q : VK} (x : RX K Z H cls d c fs) (ex : ExI K (He.ga K c))
    (hs : σ[1]? = some (some (.ref a))) (hcv : ∀ u, L2.RelV cc u → u = cv) (k : PySem.W.kitOne K (.ref (He.ga K c)) cv = some b) (q : Q (.bl b) H) : tIsE K cls d a cc σ H Q := by
  obtain ⟨e1, dd, kvs, e2, e3, _, _⟩ := x
  exact ⟨.ref a, hs, He.ga K c, dd, kvs, cc, cv, b, rfl, e1, e2, e3, ex, hcv, k, q⟩
theorem cV_rel {K : PySem.W.Frag} {C : Str} : ∀ u, L2.RelV (cV K C) u → u = .ref (He.ga K C) := fun u r => r
theorem ty_rel {T : String} : ∀ u, L2.RelV (.ty T) u → u = .type T := fun u r => r
theorem RX.new {K : PySem.W.Frag} {Z : Zs} {H H' : Hp} {cls : Value} {d : Option Addr} {c : Str} {fs : List (Str × D)} (n : New H H') (x : RX K Z H cls d c fs) : RX K Z H' cls d c fs := by
  obtain ⟨a, dd, kvs, q1, q2, q3, q4⟩ := x
  exact ⟨a, dd, kvs, q1, n.at_ _ _ q2 nt_xd, q3, q4.new n⟩
theorem xf_run {K : PySem.W.Frag} {Z : Zs} {H : Hp} {cls : Value} {d : Option Addr} {a : Addr} {c f : Str} {fs : List (Str × D)} {dv : D} {σ : L2.St} {Q : VK} (x : RX K Z H cls d c fs) (hs : σ[1]? = some (some (.ref a))) (hf : fs.lookup f = some dv)
    (q : ∀ v, Rp Z H v dv → Q v H) : tXf a cls d (He.ga K c) f (tVar 1) σ H Q := by
  obtain ⟨e1, dd, kvs, e2, e3, e4, e5⟩ := x
  have key : ∀ (kvs : List (Str × V)) (fs : List (Str × D)), kvs.map (·.1) = fs.map (·.1) → RpA Z H (kvs.map (·.2)) (fs.map (·.2)) → fs.lookup f = some dv → ∃ v, kvs.lookup f = some v ∧ Rp Z H v dv := by
    intro kvs fs
    induction fs generalizing kvs with
    | nil => intro _ _ h; simp at h
    | cons p r ih =>
      intro h1 h2 h3
      cases kvs with
      | nil => simp at h1
      | cons u t =>
        simp only [List.map_cons, List.cons.injEq] at h1
        cases h2 with
        | cons hv ht =>
          obtain ⟨pk, pd⟩ := p
          obtain ⟨uk, uv⟩ := u
          have ek : uk = pk := h1.1
          subst ek
          rw [List.lookup_cons] at h3 ⊢
          by_cases e : (f == uk) = true
          · rw [e] at h3 ⊢
            cases h3
            exact ⟨uv, rfl, hv⟩
          · rw [Bool.not_eq_true] at e
            rw [e] at h3 ⊢
            exact ih t h1.2 ht h3
  obtain ⟨v, l, r⟩ := key kvs fs e4 e5 hf
  exact ⟨.ref a, hs, rfl, e1, dd, kvs, v, e2, e3, l, q v r⟩
end
end AP

namespace AP
noncomputable section
open PySem PySem.Spec PyProof.Rows L2 RZ
variable [Tbls] [Gd]
end
end AP

namespace AP
noncomputable section
open PySem PySem.Spec PyProof.Rows L2 RZ
variable [Tbls] [Gd]
end
end AP

namespace AP
noncomputable section
open PySem PySem.Spec PyProof.Rows L2 RZ
variable [Tbls] [Gd]
abbrev Info := Str → Option (Bool × Bool × Bool)
structure InfoOk (K : PySem.W.Frag) (info : Info) : Prop where
  kits : ∀ c b1 b2 b3, info c = some (b1, b2, b3) → Kits K c b1 b2 b3
  own : ∀ c b1 b2 b3, info c = some (b1, b2, b3) → (b1 = true → c = Str.ofString "NotUsable") ∧ (b2 = true → c = Str.ofString "InvalidPaper") ∧ (b3 = true → c = Str.ofString "InvalidText")
  exm : ∀ c b1 b2 b3, info c = some (b1, b2, b3) → PySem.W.exmOne K (.ref (He.ga K c)) (.ref (He.ga K "PieceError")) = some true
end
end AP

namespace AP
noncomputable section
open PySem PySem.Spec PyProof.Rows L2 RZ
variable [Tbls] [Gd]
structure ExF (K : PySem.W.Frag) (c w1 w2 : Str) : Prop where
  T : OexC K (He.ga K c)
  n1 : PySem.W.findIn K (.ref (He.ga K c)) w1 = some none
  n2 : PySem.W.findIn K (.ref (He.ga K c)) w2 = some none
structure ExM (P : Program) (w : World) (K : PySem.W.Frag) (mg : Str → Option Value) (base : Heap) (c w1 w2 : Str) (fi : Addr) (fdi : FuncData) (ps : List Str) : Prop where
  ini : PySem.W.findIn K (.ref (He.ga K c)) "__init__" = some (some (.ref fi))
  ty : PySem.W.typeIn K (.ref fi) = some (.type "function")
  F : FnOk P w K mg base CX0 1 fi fdi ps (spIni K (He.ga K c) w1 w2)
  FH : L2H.FnH P w K mg base CX0 1 fi fdi ps (spIni K (He.ga K c) w1 w2)
  b : Binds K fdi ps []
  m : mg c = some (.ref (He.ga K c))
section
variable {X : Cx} {W : WX} {c w1 w2 : Str} {fi : Addr} {fdi : FuncData} {ps : List Str} {k : Nat} {e : Expr} {es : List Expr} {ta : TA} {p cp pos rpos : Pos} {j : Nat}
end
structure HrF (P : Program) (w : World) (K : PySem.W.Frag) (mg : Str → Option Value) (x a : Str) (params : Arguments) (body : List Stmt) (sg : Scope) (Ng : List Str) (g : Addr) (fd : FuncData) : Prop where
  F : FunD K x x params body sg [] [] g fd
  m : mg x = some (.ref g)
  b : Binds K fd [a] []
  S : FnScope Ng [a] sg
  n0 : Ng[0]? = some a
  va : Vis sg a
section
variable {X : Cx}
end
end
end AP

namespace AP
noncomputable section
open PySem PySem.Spec PyProof.Rows L2 RZ
variable [Tbls] [Gd]
end
end AP

namespace AP
noncomputable section
open PySem PySem.Spec PyProof.Rows L2 RZ
variable [Tbls] [Gd]
def mM1 (g : D → D → Option D) (a b : EM) : EM := fun s => match a s with
  | none => none
  | some (x, o1) => match vw o1 x with
    | some (.str _) => (match b (s.on o1) with
      | none => none
      | some (y, o2) => match vw o2 x, vw o2 y with
        | some d1, some d2 => (match g d1 d2 with
          | some d => some (.d d, o2)
          | none => none)
        | _, _ => none)
    | _ => none
def RMD (r : V → List V → Hp → VK → Prop) (g : D → D → Option D) : Prop := ∀ (Z : Zs) (H : Hp), (∀ a, Z a → H a ≠ none) → ∀ v1 v2 d1 d2 d, Rt Z H v1 d1 → Rt Z H v2 d2 → g d1 d2 = some d → ∀ Q : VK, (∀ v H', New H H' → Rp Z H' v d → Q v H') → r v1 [v2] H Q
theorem sn_m1 {r : V → List V → Hp → VK → Prop} {g : D → D → Option D} {ta tb : TE} {a b : EM} (hr : RMD r g) (ha : Sn ta a) (hb : Sn tb b) : Sn (tM1 r ta tb) (mM1 g a b) := by
  intro Z M s σ H h w o' e Q q
  unfold mM1 at e
  split at e
  · cases e
  · rename_i x o1 ea
    refine ha Z M s σ H h x o1 ea _ fun M1 v1 H1 e1 h1 r1 => ?_
    split at e
    · rename_i z w0
      have t := vw_ok h1.r r1 w0
      cases t
      split at e
      · cases e
      · rename_i y o2 eb
        refine ⟨⟨_, rfl⟩, hb Z M1 (s.on o1) σ H1 h1 y o2 eb _ fun M2 v2 H2 e2 h2 r2 => ?_⟩
        split at e
        · rename_i d1 d2 w1 w2
          split at e
          · rename_i d hd
            cases e
            refine hr (zz Z M2) H2 h2.r.zzd _ v2 d1 d2 d (vw_ok h2.r (e2.rv r1) w1) (vw_ok h2.r r2 w2) hd Q fun v H' n p => ?_
            exact q M2 v H' ((e1.trans e2).trans (Ex2.new n)) (h2.new n) p
          · cases e
        · cases e
    · cases e
def mPop0 (a : EM) : EM := fun s => match a s with
  | some (.m k, o1) => (match o1[k]? with
    | some (.l ds) => (match ds[ds.length - 1]? with
      | some d => some (.d d, o1.set k (.l ds.dropLast))
      | none => none)
    | _ => none)
  | _ => none
theorem RpA.dropLast {Z : Zs} {H : Hp} {us : List V} {xs : List D} (r : RpA Z H us xs) : RpA Z H us.dropLast xs.dropLast := by
  rw [List.dropLast_eq_take, List.dropLast_eq_take, r.length]
  exact r.take _
theorem sn_pop {K : PySem.W.Frag} {ta : TE} {a : EM} (ha : Sn ta a) : Sn (tBM0 K "list" rPop ta) (mPop0 a) := by
  intro Z M s σ H h w o' e Q q
  unfold mPop0 at e
  split at e
  · rename_i k o1 ea
    split at e
    · rename_i ds hk
      split at e
      · rename_i d hd
        cases e
        refine ha Z M s σ H h _ _ ea _ fun M1 v1 H1 e1 h1 r1 => ?_
        obtain ⟨p, hp, rfl⟩ := r1
        obtain ⟨xs, hx, rx⟩ := h1.r.ob k p _ hp hk
        obtain ⟨y, hy, ry⟩ := rx.get hd
        refine ⟨.inl ⟨rfl, _, SqL.of hx⟩, p, xs, y, rfl, rfl, hx, by rw [rx.length]; exact hy, ?_⟩
        obtain ⟨g1, g2⟩ := own_mut (ob := .lst xs.dropLast) (r := .l ds.dropLast) h1 hp ⟨_, rfl, rx.dropLast⟩
        exact q M1 y _ ⟨e1.toExt.trans g2, e1.same⟩ g1 (g2.mono_d ry)
      · cases e
    · cases e
  · cases e
def ixP (i : Int) (n : Nat) : Option Nat := if -(2 ^ 63) ≤ i ∧ i < 2 ^ 63 then seqIndex? i n else none
def mPopI (a b : EM) : EM := fun s => match a s with
  | some (.m k, o1) => (match o1[k]? with
    | some (.l _) => (match b (s.on o1) with
      | some (.d (.int i), o2) => (match o2[k]? with
        | some (.l ds) => (match ixP i ds.length with
          | some j => (match ds[j]? with
            | some d => some (.d d, o2.set k (.l (ds.eraseIdx j)))
            | none => none)
          | none => none)
        | _ => none)
      | _ => none)
    | _ => none)
  | _ => none
theorem RpA.erase {Z : Zs} {H : Hp} {us : List V} {xs : List D} (r : RpA Z H us xs) (j : Nat) : RpA Z H (us.eraseIdx j) (xs.eraseIdx j) := by
  rw [List.eraseIdx_eq_take_drop_succ, List.eraseIdx_eq_take_drop_succ]
  exact (r.take j).append (r.drop (j + 1))
theorem sn_popI {K : PySem.W.Frag} {ta tb : TE} {a b : EM} (ha : Sn ta a) (hb : Sn tb b) : Sn (tBM K "list" rPopAt ta (tCons tb tNil)) (mPopI a b) := by
  intro Z M s σ H h w o' e Q q
  unfold mPopI at e
  split at e
  · rename_i k o1 ea
    split at e
    · rename_i ds1 hk1
      split at e
      · rename_i i o2 eb
        split at e
        · rename_i ds hk
          split at e
          · rename_i j hj
            split at e
            · rename_i d hd
              cases e
              refine ha Z M s σ H h _ _ ea _ fun M1 v1 H1 e1 h1 r1 => ?_
              obtain ⟨p, hp, rfl⟩ := r1
              obtain ⟨xs1, hx1, _⟩ := h1.r.ob k p _ hp hk1
              refine ⟨.inl ⟨rfl, _, SqL.of hx1⟩, ?_⟩
              refine hb Z M1 (s.on o1) σ H1 h1 _ _ eb _ fun M2 v2 H2 e2 h2 r2 => ?_
              have r2' : Rp (zz Z M2) H2 v2 (.int i) := r2
              cases r2'
              have hp2 := e2.toExt.at hp
              obtain ⟨xs, hx, rx⟩ := h2.r.ob k p _ hp2 hk
              obtain ⟨y, hy, ry⟩ := rx.get hd
              unfold ixP at hj
              split at hj
              · rename_i hb2
                refine ⟨p, xs, i, j, y, rfl, rfl, hx, hb2.1, hb2.2, by rw [rx.length]; exact hj, hy, ?_⟩
                obtain ⟨g1, g2⟩ := own_mut (ob := .lst (xs.eraseIdx j)) (r := .l (ds.eraseIdx j)) h2 hp2 ⟨_, rfl, rx.erase j⟩
                exact q M2 y _ ⟨(e1.toExt.trans e2.toExt).trans g2, e2.same.trans e1.same⟩ g1 (g2.mono_d ry)
              · cases hj
            · cases e
          · cases e
        · cases e
      · cases e
    · cases e
  · cases e
end
end AP

namespace AP
noncomputable section
open PySem PySem.Spec PyProof.Rows L2 RZ
variable [Tbls] [Gd]
def seqD : D → Option (List D)
  | .list ds => some ds
  | .tuple ds => some ds
  | _ => none
def mStar (a : EM) (r : AM) : AM := fun s => match a s with
  | none => none
  | some (x, o1) => match vw o1 x with
    | none => none
    | some d => match seqD d with
      | none => none
      | some ds => match r (s.on o1) with
        | none => none
        | some (xs, o2) => some (ds.map .d ++ xs, o2)
theorem RvA.ofD {Z : Zs} {M : List Addr} {H : Hp} : ∀ {us : List V} {ds : List D}, RpA (zz Z M) H us ds → RvA Z M H us (ds.map .d)
  | _, _, .nil => .nil
  | _, _, .cons h r => .cons h (RvA.ofD r)
theorem RvA.app {Z : Zs} {M : List Addr} {H : Hp} : ∀ {us vs : List V} {xs ys : List SV}, RvA Z M H us xs → RvA Z M H vs ys → RvA Z M H (us ++ vs) (xs ++ ys)
  | _, _, _, _, .nil, h => h
  | _, _, _, _, .cons h r, g => .cons h (RvA.app r g)
theorem sn_star {K : PySem.W.Frag} {ta : TE} {tr : TA} {a : EM} {r : AM} (ha : Sn ta a) (hr : SnA tr r) : SnA (StX.tStar K ta tr) (mStar a r) := by
  intro Z M s σ H h w o' e Q q
  unfold mStar at e
  split at e
  · cases e
  · rename_i x o1 ea
    refine ha Z M s σ H h x o1 ea _ fun M1 v1 H1 e1 h1 r1 => ?_
    split at e
    · cases e
    · rename_i d hd
      split at e
      · cases e
      · rename_i ds hs
        split at e
        · cases e
        · rename_i xs o2 er
          cases e
          have t := vw_ok h1.r r1 hd
          have : ∃ p us, v1 = .ref p ∧ (SqT K H1 p us ∨ SqL K H1 p us) ∧ RpA (zz Z M1) H1 us ds := by
            unfold seqD at hs
            split at hs
            · cases hs
              obtain ⟨p, us, rfl, g, ra⟩ := t
              exact ⟨_, _, rfl, .inr (SqL.of g), ra⟩
            · cases hs
              obtain ⟨p, us, rfl, g, ra, _⟩ := t
              exact ⟨_, _, rfl, .inl (g.sq), ra⟩
            · cases hs
          obtain ⟨p, us, rfl, hq, ra⟩ := this
          refine ⟨p, us, rfl, hq, ?_⟩
          refine hr Z M1 (s.on o1) σ H1 h1 _ _ er _ fun M2 vs H2 e2 h2 r2 => ?_
          exact q M2 _ H2 (e1.trans e2) h2 (RvA.app (RvA.ext e2.toExt (RvA.ofD ra)) r2)
end
end AP

namespace AP
noncomputable section
open PySem PySem.Spec PyProof.Rows L2 RZ
variable [Tbls] [Gd]
inductive SnJ : List TE → List EM → Prop
  | nil : SnJ [] []
  | cons {t : TE} {m : EM} {ts : List TE} {ms : List EM} : Sn t m → SnJ ts ms → SnJ (t :: ts) (m :: ms)
end
end AP

namespace AP
noncomputable section
open PySem PySem.Spec PyProof.Rows L2 RZ
variable [Tbls] [Gd]
def rIntT : List V → Hp → VK → Prop := fun xs H Q => ∃ a n, xs = [.str a] ∧ PySem.intText? a = some n ∧ a.length ≤ 640 ∧ Q (.int n) H
def rIntU : List V → Hp → VK → Prop := fun xs H Q => rIntA xs H Q ∨ rIntT xs H Q
theorem call_intU {X : Cx} : CallR X (.type "int") rIntU := call_int1.or call_int_str
def gIntU : List D → Option D
  | [.int i] => some (.int i)
  | [.bool k] => some (.int (if k then 1 else 0))
  | [.str a] => if a.length ≤ 640 then (match PySem.intText? a with
    | some n => some (.int n)
    | none => none) else none
  | _ => none
theorem rc_intU : RCD rIntU gIntU := by
  intro Z H hz vs ds d r e Q q
  unfold gIntU at e
  split at e
  · cases e
    cases r with
    | cons h t => cases t; cases h; exact .inl (.inl ⟨_, rfl, q _ H (New.refl H) (.int _)⟩)
  · cases e
    cases r with
    | cons h t => cases t; cases h; exact .inl (.inr ⟨_, rfl, q _ H (New.refl H) (.int _)⟩)
  · split at e
    · rename_i hl
      split at e
      · rename_i n hn
        cases e
        cases r with
        | cons h t => cases t; cases h; exact .inr ⟨_, n, rfl, hn, hl, q _ H (New.refl H) (.int _)⟩
      · cases e
    · cases e
  · cases e
theorem keys_ok {Z : Zs} {H : Hp} : ∀ {kvs : List (Key × V)} {ps : List (D × D)} {ks : List Str}, RpK Z H kvs ps → strsOf (ps.map (·.1)) = some ks → kvs.map (·.1) = ks.map Sum.inr
  | _, _, _, .nil, e => by cases e; rfl
  | _, _, ks, .cons (k := k) (ps := ps) h r, e => by
    cases k with
    | inl i => simp [kD, strsOf] at e
    | inr x =>
      simp only [List.map_cons, kD, strsOf] at e
      cases e2 : strsOf (ps.map (·.1)) with
      | none => rw [e2] at e; cases e
      | some ys =>
        rw [e2] at e
        cases e
        simp only [List.map_cons, keys_ok r e2]
def rSortD : List V → Hp → VK → Prop := fun xs H Q => ∃ (a : Addr) (kvs : List (Key × V)) (ks : List Str), xs = [.ref a] ∧ Rd H a (.dK kvs) ∧ kvs.map (·.1) = ks.map Sum.inr ∧ ks.length < 64 ∧
    ∀ ys p, ys.Perm ks → sortedS ys = true → H p = none → Q (.ref p) (upd H p (.lst (ys.map V.str)))
def rSortU (K : PySem.W.Frag) : List V → Hp → VK → Prop := fun xs H Q => rSortA K xs H Q ∨ rSortD xs H Q
theorem cr_sortU {X : Cx} (hc : X.calm = true) : CallR X (.builtin "sorted") (rSortU X.K) := cr_sortA.or (call_sortedD hc)
def gSortedU : List D → Option D
  | [.dict ps] => (match strsOf (ps.map (·.1)) with
    | some ks => if ks.length < 64 then some (.list ((sortS ks).map .str)) else none
    | none => none)
  | ds => gSorted ds
theorem rc_sortedU {K : PySem.W.Frag} : RCD (rSortU K) gSortedU := by
  intro Z H hz vs ds d r e Q q
  unfold gSortedU at e
  split at e
  · split at e
    · rename_i ks hk
      split at e
      · rename_i h64
        cases e
        cases r with
        | cons h t =>
          cases t
          obtain ⟨a, kvs, rfl, hd, rk⟩ := h
          refine .inr ⟨a, kvs, ks, rfl, hd, keys_ok rk hk, h64, fun ys p hp hs hn => ?_⟩
          obtain rfl := sortS_only hp hs
          exact q _ _ (New.upd hn) (.lst (fresh_nz hz hn) upd_same (rpA_strs _))
      · cases e
    · cases e
  · exact .inl (rc_sorted Z H hz vs _ d r e Q q)
end
end AP

namespace AP
noncomputable section
open PySem PySem.Spec PyProof.Rows L2 RZ
variable [Tbls]
structure HeF (K : PySem.W.Frag) (mg : Str → Option Value) : Prop where
  isi : mg "isinstance" = none
  val : mg "ValueError" = none
  pie : mg "PieceError" = some (.ref (He.ga K "PieceError"))
  net : mg "NetError" = some (.ref (He.ga K "NetError"))
  pap : mg "PaperError" = some (.ref (He.ga K "PaperError"))
  txt : mg "TextError" = some (.ref (He.ga K "TextError"))
  spr : mg "SpreadError" = some (.ref (He.ga K "SpreadError"))
  use : mg "NotUsable" = some (.ref (He.ga K "NotUsable"))
  inp : mg "InvalidPaper" = some (.ref (He.ga K "InvalidPaper"))
  int : mg "InvalidText" = some (.ref (He.ga K "InvalidText"))
  xuse : XfC K (He.ga K "NotUsable")
  xinp : XfC K (He.ga K "InvalidPaper")
  xint : XfC K (He.ga K "InvalidText")
  u1 : PySem.W.findIn K (.ref (He.ga K "NotUsable")) "word" = some none
  u2 : PySem.W.findIn K (.ref (He.ga K "NotUsable")) "at" = some none
  p1 : PySem.W.findIn K (.ref (He.ga K "InvalidPaper")) "word" = some none
  p2 : PySem.W.findIn K (.ref (He.ga K "InvalidPaper")) "at" = some none
  t1 : PySem.W.findIn K (.ref (He.ga K "InvalidText")) "line" = some none
  t2 : PySem.W.findIn K (.ref (He.ga K "InvalidText")) "field" = some none
structure LmF (base : Heap) (mg : Str → Option Value) (fd : FuncData) (c Pt : Addr) (q : Str) : Prop where
  code : fd.code = .ref c
  tb : LamX.TabB base mg c Pt
  mem : (Pt, q) ∈ Tbls.T
  uniq : ∀ p ∈ Tbls.T, p.1 = Pt → p.2 = q
section
variable {Y : Cx} {E : XK} {e : Expr} {es : List Expr} {ps : List Str} {sp : Sp} {x : Str} {f : Addr} {fd : FuncData} {j k : Nat} {t : TA} {p pos : Pos}
end
theorem LmF.mem2 {X : Cx} {fd : FuncData} {c Pt : Addr} {nm : Str} (L : LmF X.base X.mg fd c Pt ((nm ++ (".<locals>." : Str)) ++ ("<lambda>" : Str))) (hq : X.env.qual = nm ++ (".<locals>." : Str)) : (Pt, X.env.qual ++ ("<lambda>" : Str)) ∈ Tbls.T := by
  rw [hq]; exact L.mem
end
end AP

namespace AP
noncomputable section
open PySem PySem.Spec PyProof.Rows L2 RZ
variable [Tbls] [Gd]
theorem RvA.length {Z : Zs} {M : List Addr} {H : Hp} : ∀ {vs : List V} {xs : List SV}, RvA Z M H vs xs → vs.length = xs.length
  | _, _, .nil => rfl
  | _, _, .cons _ r => by simp [RvA.length r]
def mM0 (g : Str → Option D) (a : EM) : EM := fun s => match a s with
  | some (x, o1) => (match vw o1 x with
    | some (.str z) => (match g z with
      | some d => some (.d d, o1)
      | none => none)
    | _ => none)
  | none => none
def RM0 (r : V → List V → Hp → VK → Prop) (g : Str → Option D) : Prop := ∀ (Z : Zs) (H : Hp), (∀ a, Z a → H a ≠ none) → ∀ z d, g z = some d → ∀ Q : VK, (∀ v H', New H H' → Rp Z H' v d → Q v H') → r (.str z) [] H Q
theorem sn_m0 {r : V → List V → Hp → VK → Prop} {g : Str → Option D} {ta : TE} {a : EM} (hr : RM0 r g) (ha : Sn ta a) : Sn (tM0 r ta) (mM0 g a) := by
  intro Z M s σ H h w o' e Q q
  unfold mM0 at e
  split at e
  · rename_i x o1 ea
    refine ha Z M s σ H h x o1 ea _ fun M1 v1 H1 e1 h1 r1 => ?_
    split at e
    · rename_i z w0
      have t := vw_ok h1.r r1 w0
      cases t
      split at e
      · rename_i d hd
        cases e
        exact ⟨⟨_, rfl⟩, hr (zz Z M1) H1 h1.r.zzd z d hd Q fun v H' n p => q M1 v H' (e1.trans (Ex2.new n)) (h1.new n) p⟩
      · cases e
    · cases e
  · cases e
section
variable {X : Cx} {o : Expr} {p pos apos mpos : Pos} {td : TE}
end
end
end AP

namespace AP
noncomputable section
open PySem PySem.Spec PyProof.Rows L2 RZ
def hpStart (T : List Addr) (a : Addr) (known : Bool) (o : Obj) (u : HO) : Hp := fun b =>
  if b ∈ T then some (.tbl #[]) else if known = false ∧ b = a then some (.frz o u) else none
section
variable {T : List Addr} {a b : Addr} {known : Bool} {o : Obj} {u : HO}
theorem hpStart_tab (h : b ∈ T) : hpStart T a known o u b = some (.tbl #[]) := if_pos h
theorem hpStart_cases {z : HO} (h : hpStart T a known o u b = some z) : (b ∈ T ∧ z = .tbl #[]) ∨ (b ∉ T ∧ known = false ∧ b = a ∧ z = .frz o u) := by
  unfold hpStart at h
  by_cases h1 : b ∈ T
  · rw [if_pos h1] at h
    exact .inl ⟨h1, (Option.some.inj h).symm⟩
  · rw [if_neg h1] at h
    by_cases h2 : known = false ∧ b = a
    · rw [if_pos h2] at h
      exact .inr ⟨h1, h2.1, h2.2, (Option.some.inj h).symm⟩
    · rw [if_neg h2] at h
      cases h
theorem hpStart_script (h : a ∉ T) (hk : known = false) : hpStart T a known o u a = some (.frz o u) := by
  unfold hpStart
  rw [if_neg h, if_pos ⟨hk, rfl⟩]
end
abbrev Maker := Addr × Addr × Str
abbrev tblsOf (cs : List Maker) : Tbls := ⟨cs.map fun q => (q.2.1, q.2.2)⟩
abbrev tabO : Obj := { cls := .none, data := .fields #[] }
theorem end_callT {P : Program} {w : World} {K : PySem.W.Frag} {mg mb : Str → Option Value} {k : Nat} {fa a : Addr} {cs : List Maker} {fd : FuncData} {x : Str} {s₁ : Shared} {vs : List Value} {ns : List Int}
    (KX : K.In s₁.heap) (hns : s₁.heap.Ns mainGlobals mg) (hb : s₁.heap.Ns builtinsNs mb) (hbb : ∀ x : Str, x ≠ "__name__" → mb x = bootBuiltins x) (hlim : s₁.heap.NoLimit) (hg : s₁.gens = #[])
    (hT : ∀ q ∈ cs, s₁.heap.get? q.2.1 = some tabO) (nT : ∀ q ∈ cs, K.lookup q.2.1 = none) (C : ∀ q ∈ cs, PySem.W.CodeHd s₁.heap q.1 q.2.1)
    (hbm : ∃ (bm : Addr) (ob : Obj), mg "__builtins__" = some (.ref bm) ∧ bm ≠ builtinsNs ∧ s₁.heap.get? bm = some ob ∧ ob.cls = .type "module" ∧ ob.dict = some builtinsNs ∧ ob.data = .plain)
    (ha : s₁.heap.get? a = some { cls := .type "list", data := .seq vs.toArray }) (hi : IntsAre vs ns) (hl : ns.length ≤ 63) (hr : Room k callerA)
    (F : ∀ base : Heap, K.In base → base.Ns mainGlobals mg → (∀ q ∈ cs, LamX.TabB base mg q.1 q.2.1) → @FnG gT P w K mg base CX0 k fa fd [x] (@spLaw (tblsOf cs) K)) (hbind : ∀ (s : Shared) (u : Value), BindsTo s fd ⟨[u], []⟩ [(x, u)]) :
    codeAny (model P w) callerA (.call (.ref fa) ⟨[.ref a], []⟩) (fun r s' => r = .ok (.ret (.bool true)) ∧ OldK s₁.heap s'.heap ∧ s'.os = s₁.os ∧ AllBare s'.gens) s₁ := by
  letI : Gd := gT
  letI : Tbls := tblsOf cs
  have rv := vals_ints hi
  have lv := hi.length
  have small : ns.length ≤ sizeLine := Nat.le_trans hl (small_line (by omega))
  let T := cs.map fun q => q.2.1
  have inT : ∀ q ∈ cs, q.2.1 ∈ T := fun q hq => List.mem_map.mpr ⟨q, hq, rfl⟩
  have ofT : ∀ {b : Addr}, b ∈ T → ∃ q ∈ cs, q.2.1 = b := fun hb => by
    obtain ⟨q, hq, e⟩ := List.mem_map.mp hb
    exact ⟨q, hq, e⟩
  have tabT : ∀ {b : Addr}, b ∈ T → s₁.heap.get? b = some tabO ∧ K.lookup b = none := fun hb => by
    obtain ⟨q, hq, e⟩ := ofT hb
    subst e
    exact ⟨hT q hq, nT q hq⟩
  have aT : a ∉ T := fun z => by
    have q := (tabT z).1
    rw [ha] at q
    have e := congrArg Obj.data (Option.some.inj q)
    cases e
  let scr : Obj := { cls := .type "list", data := .seq vs.toArray }
  let known : Bool := (K.lookup a).isSome
  let H : Hp := hpStart T a known scr (.lst (ns.map V.int))
  have none_of : ∀ {b : Addr} {o : Obj}, s₁.heap.get? b = some o → (∀ vs n, o.data ≠ .seq vs n) → o.data ≠ .fields #[] → H b = none := fun {b o} e n1 n2 => by
    cases q : H b with
    | none => rfl
    | some z =>
      rcases hpStart_cases q with ⟨h1, _⟩ | ⟨_, _, h1, _⟩
      · rw [(tabT h1).1] at e
        cases e
        exact absurd rfl n2
      · rw [h1, ha] at e
        cases e
        exact absurd rfl (n1 _ _)
  have kin : K.In (hidT s₁.heap H) := fun b o e => hidT_get (KX b o e) (by
    cases q : H b with
    | none => rfl
    | some z =>
      rcases hpStart_cases q with ⟨h1, _⟩ | ⟨_, h2, h1, _⟩
      · rw [(tabT h1).2] at e
        cases e
      · have h3 : (K.lookup a).isSome = false := h2
        rw [h1] at e
        rw [e] at h3
        cases h3)
  have nsK : ∀ {b : Addr} {m : Str → Option Value}, s₁.heap.Ns b m → (hidT s₁.heap H).Ns b m := by
    rintro b m ⟨o, es, ep, e, d, r⟩
    exact ⟨o, es, ep, hidT_get e (none_of e (fun vs n z => by rw [d] at z; cases z) fun z => by rw [d] at z; cases z), d, r⟩
  have modK : L2.Mod K mg (hidT s₁.heap H) := by
    obtain ⟨mc, l1, l2⟩ := hlim
    exact ⟨kin, nsK hns, ⟨mb, nsK hb, hbb⟩, ⟨mc, nsK l1, l2⟩⟩
  have TB : ∀ q ∈ cs, LamX.TabB (hidT s₁.heap H) mg q.1 q.2.1 := fun q hq => by
    have t1 := hT q hq
    refine ⟨?_, ?_, fun z => ?_⟩
    · obtain ⟨o, us, file, tf, flags, tg, inF, text, tt, e1, r1, r2, r3⟩ := C q hq
      exact ⟨o, us, file, tf, flags, tg, inF, text, tt, hidT_get e1 (none_of e1 (fun vs n z => by rw [r2] at z; cases z) fun z => by
        rw [r2] at z
        cases z
        simp at r3), r1, r2, r3⟩
    · obtain ⟨bm, ob, b1, b2, b3, b4, b5, b6⟩ := hbm
      have n1 : bm ≠ mainGlobals := fun z => by
        obtain ⟨o, es, ep, e, hd, _⟩ := hns
        rw [z, e] at b3
        cases b3
        rw [hd] at b6
        cases b6
      have n2 : bm ≠ q.2.1 := fun z => by
        rw [z, t1] at b3
        cases b3
        cases b6
      exact ⟨bm, ob, b1, b2, n1, n2, hidT_get b3 (none_of b3 (fun vs n z => by rw [b6] at z; cases z) fun z => by rw [b6] at z; cases z), b4, b5, b6⟩
    · obtain ⟨o, es, ep, e, hd, _⟩ := hns
      rw [z, t1] at e
      cases e
      cases hd
  have hok : HOk P w H s₁.heap := fun b z e => by
    rcases hpStart_cases e with ⟨h1, rfl⟩ | ⟨_, _, h1, rfl⟩
    · exact (tabT h1).1
    · subst h1
      exact ⟨ha, by rw [List.length_map]; exact small, vs, _, rv, ha⟩
  have seen : SqL K H a (ns.map V.int) := by
    cases q : K.lookup a with
    | some o =>
      have e := KX a o q
      rw [ha] at e
      cases e
      exact .inr ⟨_, vs.toArray, _, q, rfl, rfl, rfl, by rw [List.size_toArray, lv]; exact small, by simpa using rv⟩
    | none => exact .inl (.inr ⟨scr, hpStart_script aT (by show (K.lookup a).isSome = false; rw [q]; rfl)⟩)
  have tabs : LamX.Tabs Tbls.T H := fun p hp => by
    obtain ⟨q, hq, e⟩ := List.mem_map.mp (show p ∈ cs.map fun q => (q.2.1, q.2.2) from hp)
    subst e
    exact LamX.TabS.nil (hpStart_tab (inT q hq))
  have e0 : Env0 P w K mg (hidT s₁.heap H) callerA [] s₁ H :=
    { frames := rfl, mod := modK, bs := fun b o e => of_hidT e, bsz := Nat.le_of_eq (hidT_size _ _), funs := trivial, frf := fun b z => absurd (show b ∈ ([] : List Addr) from z) (by simp), hok := hok, bare := .of_eq hg }
  refine codeAny_mono ((F _ kin modK.glob TB).goes callerA [] s₁ H ⟨[.ref a], []⟩ [.ref a] [.ref a] (fun v _ => v = .bl true) (fun _ _ _ => False) (fun _ => rfl) hr e0 (hbind s₁ (.ref a)) (.cons rfl .nil) ⟨a, ns, rfl, tabs, seen, hl, fun _ => rfl⟩) fun r s' h => ?_
  match r, h with
  | .ok (.ret v), h =>
    obtain ⟨x2, H2, os, bare, un, ok2, rl, q⟩ := h
    have q2 : x2 = .bl true := q
    subst q2
    cases rl
    have grown : ∀ {b : Addr}, b ∈ T → ∃ more : Array Value, s'.heap.get? b = some { cls := .none, data := .fields more } := fun {b} hb => by
      obtain ⟨more, z⟩ := un.tbls b #[] (hpStart_tab hb)
      exact ⟨_, ok2 b _ z⟩
    have kept : ∀ {b : Addr} {o : Obj}, b ∉ T → s₁.heap.get? b = some o → s'.heap.get? b = some o := fun {b o} nb e => by
      cases q3 : H b with
      | none => exact un.keep b o e q3 (fun z => absurd (show b ∈ ([] : List Addr) from z) (by simp)) (by simp)
      | some z =>
        rcases hpStart_cases q3 with ⟨h1, _⟩ | ⟨_, _, h1, h2⟩
        · exact absurd h1 nb
        · subst h1 h2
          obtain ⟨e2, _⟩ := ok2 _ _ (un.frzs _ _ _ q3)
          rw [ha] at e
          cases e
          exact e2
    refine ⟨rfl, ⟨fun b o e => ?_, fun b o e => ?_⟩, os, bare⟩
    · by_cases hb2 : b ∈ T
      · obtain ⟨more, hm⟩ := grown hb2
        obtain ⟨q3, hq, e3⟩ := ofT hb2
        subst e3
        rw [hT q3 hq] at e
        cases e
        exact .inr (.inl ⟨((C q3 hq).tab (hT q3 hq)).isCodeTable, rfl, #[], more, rfl, by rw [Array.empty_append]; exact hm⟩)
      · exact .inl (kept hb2 e)
    · by_cases hb2 : b ∈ T
      · obtain ⟨more, hm⟩ := grown hb2
        exact ⟨_, hm⟩
      · exact ⟨o, kept hb2 e⟩
  | .error e, h => exact (show False from h).elim
  | .ok .next, h => exact (show False from h).elim
  | .ok .brk, h => exact (show False from h).elim
  | .ok .cont, h => exact (show False from h).elim
theorem end_lawT {l : PySem.W.OpenLaw} {k : Nat} {q : Program} {loose : List Str} {XP : (Str → Option Value) → Heap → Prop} {YP : World → Heap → Prop} {d : DefRec} {x : Str}
    (hn : l.most = some 63) (hdf : d.params.defaults = []) (hr : Room k callerA)
    (F : ∀ (w : World) (mg : Str → Option Value) (fa : Addr) (h : Heap), YP w h → h.Ns mainGlobals mg → mg d.name = some (.ref fa) →
      ∃ (K : PySem.W.Frag) (fd : FuncData) (cs : List Maker), K.In h ∧ (∀ q ∈ cs, h.get? q.2.1 = some tabO) ∧ (∀ q ∈ cs, K.lookup q.2.1 = none) ∧ (∀ q ∈ cs, PySem.W.CodeHd h q.1 q.2.1) ∧ (∀ (s : Shared) (u : Value), BindsTo s fd ⟨[u], []⟩ [(x, u)]) ∧
        ∀ base : Heap, K.In base → base.Ns mainGlobals mg → (∀ q ∈ cs, LamX.TabB base mg q.1 q.2.1) → @FnG gT l.prog w K mg base CX0 k fa fd [x] (@spLaw (tblsOf cs) K)) :
    PySem.W.WalkO q loose XP YP l.row.toRowW d [] (fun f vs => PySem.call f vs) := by
  refine Att.attach_call hn hdf fun w s₀ s₁ mg mb fa o pm cd doc a vs ns G Y ho hd hcd hmg hobj hints hlen hg => ?_
  obtain ⟨K, fd, cs, KX, hT, nT, C, hb, hF⟩ := F w mg fa _ Y G.T.g hmg
  exact end_callT KX G.T.g G.T.b G.T.builtins G.T.nolimit hg hT nT C G.T.bmain hobj hints hlen hr hF hb
end
end AP

namespace AP
noncomputable section
open PySem PySem.Spec PyProof.Rows L2 RZ
def vB (a b : Option (Option Value)) : Bool := decide (a = b)
theorem vB_ok {a b : Option (Option Value)} (h : vB a b = true) : a = b := of_decide_eq_true h
def oB (a : Option Bool) (b : Bool) : Bool := decide (a = some b)
theorem oB_ok {a : Option Bool} {b : Bool} (h : oB a b = true) : a = some b := of_decide_eq_true h
theorem two {a b : Bool} (h : (a && b) = true) : a = true ∧ b = true := by simpa using h
def writtenB (K : PySem.W.Frag) (C : Addr) : Bool := match K.lookup C with
  | some ⟨.type c, _, .cls cd, sl⟩ => decide (c = "type") && (cd.hasDict && (!cd.hasDel && (match cd.mro, sl.toList with
    | .ref C' :: bm, [_, _, _, _, some (.builtin n), _] => decide (C' = C) && (decide (n = "ValueError.__new__") && PySem.HandSPX.refsVE bm)
    | _, _ => false)))
  | _ => false
theorem writtenB_ok {K : PySem.W.Frag} {C : Addr} (h : writtenB K C = true) :
    ∃ nm q N bs bm sn sub ab col dd k0 k1 k2 k3 k5, K.lookup C = some (excClassObj nm q C N bs bm true sn sub ab col dd k0 k1 k2 k3 k5 "ValueError.__new__") ∧ PySem.HandSPX.refsVE bm = true := by
  unfold writtenB at h
  split at h
  · rename_i c dd cd sl hl
    obtain ⟨h1, h⟩ := two h
    obtain ⟨h2, h⟩ := two h
    obtain ⟨h3, h⟩ := two h
    split at h
    · rename_i C' bm k0 k1 k2 k3 n k5 hm hs
      obtain ⟨g1, h⟩ := two h
      obtain ⟨g2, g3⟩ := two h
      have e1 : c = "type" := of_decide_eq_true h1
      have e2 : C' = C := of_decide_eq_true g1
      have e3 : n = "ValueError.__new__" := of_decide_eq_true g2
      have e4 : sl = #[k0, k1, k2, k3, some (.builtin n), k5] := Array.ext' hs
      obtain ⟨nm, bs, mro, ns, q, hd, sn, sub, ab, col, hdel⟩ := cd
      have e5 : hd = true := h2
      have e6 : hdel = false := by simpa using h3
      have e7 : mro = .ref C' :: bm := hm
      subst e1 e2 e3 e4 e5 e6 e7
      exact ⟨_, _, _, _, _, _, _, _, _, _, _, _, _, _, _, hl, g3⟩
    · cases h
  · cases h
def exB (K : PySem.W.Frag) (c w1 w2 : Str) : Bool := writtenB K (He.ga K c) && (vB (PySem.W.findIn K (.ref (He.ga K c)) "__setattr__") (some (some (.builtin "object.__setattr__"))) &&
  (oB (PySem.W.subIn K (.ref (He.ga K c)) (.type "BaseException")) true && (decide (PySem.W.typeIn K (.ref (He.ga K c)) = some (.type "type")) && (PySem.W.keepIn K (.ref (He.ga K c)) &&
  (vB (PySem.W.findIn K (.ref (He.ga K c)) w1) (some none) && (vB (PySem.W.findIn K (.ref (He.ga K c)) w2) (some none) &&
  (vB (PySem.W.findIn K (.ref (He.ga K c)) "__init__") (some (some (.ref (He.fAd K (c, some "__init__"))))) && decide (PySem.W.typeIn K (.ref (He.fAd K (c, some "__init__"))) = some (.type "function")))))))))
theorem exB_ok {K : PySem.W.Frag} {c w1 w2 : Str} (h : exB K c w1 w2 = true) : ExF K c w1 w2 ∧ PySem.W.findIn K (.ref (He.ga K c)) "__init__" = some (some (.ref (He.fAd K (c, some "__init__")))) ∧ PySem.W.typeIn K (.ref (He.fAd K (c, some "__init__"))) = some (.type "function") := by
  obtain ⟨h1, h⟩ := two h
  obtain ⟨h2, h⟩ := two h
  obtain ⟨h3, h⟩ := two h
  obtain ⟨h4, h⟩ := two h
  obtain ⟨h5, h⟩ := two h
  obtain ⟨h6, h⟩ := two h
  obtain ⟨h7, h⟩ := two h
  obtain ⟨h8, h9⟩ := two h
  exact ⟨⟨⟨writtenB_ok h1, vB_ok h2, oB_ok h3, of_decide_eq_true h4, h5⟩, vB_ok h6, vB_ok h7⟩, vB_ok h8, of_decide_eq_true h9⟩
section
variable [Tbls] [Gd]
theorem exM_of {P : Program} {w : World} {K : PySem.W.Frag} {mg : Str → Option Value} {base : Heap} {c w1 w2 qual : Str} {params : Arguments} {body : List Stmt} {scope : Scope} {N ps : List Str} {fd : FuncData} (h : exB K c w1 w2 = true) (hm : mg c = some (.ref (He.ga K c)))
    (F : FunD K "__init__" qual params body scope [] [] (He.fAd K (c, some "__init__")) fd) (sc : FnScope N ps scope) (h3 : ps.length = 3)
    (hb : ∀ (kV doc pm : Value) (an : Option Addr) (cdv ct : Value) (us : List Value), us.length = ps.length → bindArgs (PySem.W.fnOf "__init__" qual params body scope .none kV doc pm an cdv ct) ⟨us, []⟩ = pure (ps.zip us))
    (r1 : ∀ (cdv : Value) (A : Around) (outer : List Env) (s : Shared) (H : Hp) (E : XK), PSs (cxOf CX0 P w K mg base N qual scope (He.fAd K (c, some "__init__")) cdv A outer s H E) body (tIni K w1 w2))
    (r2 : ∀ (cdv : Value) (A : Around) (outer : List Env) (s : Shared) (H : Hp) (E : XK) (p : Addr × Obj), PSs (L2H.cxH CX0 P w K mg base N qual scope (He.fAd K (c, some "__init__")) cdv A outer s H E p) body (tIni K w1 w2)) :
    ExM P w K mg base c w1 w2 (He.fAd K (c, some "__init__")) fd ps :=
  have e := exB_ok h
  ⟨e.2.1, e.2.2, def_ini (k := 0) F sc h3 fun cdv A outer s H E _ => r1 cdv A outer s H E, def_iniH (k := 0) F sc h3 fun cdv A outer s H E p => r2 cdv A outer s H E p, F.bindsN hb, hm⟩
end
def lamName (x : Str) : Str := (x ++ (".<locals>." : Str)) ++ ("<lambda>" : Str)
def makers (K : PySem.W.Frag) (tf : List He.Defn) : List Maker := tf.map fun p => ((He.cT K p).1, (He.cT K p).2, lamName p.1)
def ndB : List Addr → Bool
  | [] => true
  | a :: r => !r.contains a && ndB r
theorem makers_ok {fa : List He.Fa} {fn : List He.DefD} {tf : List He.Defn} {ex : PySem.W.Frag → Bool} {w : World} {h : Heap} {K : PySem.W.Frag} (X : K.In h) (c : He.SaysX fa fn [] tf ex w h K) :
    (∀ q ∈ makers K tf, h.get? q.2.1 = some tabO) ∧ (∀ q ∈ makers K tf, K.lookup q.2.1 = none) ∧ ∀ q ∈ makers K tf, PySem.W.CodeHd h q.1 q.2.1 := by
  refine ⟨fun q hq => ?_, fun q hq => ?_, fun q hq => ?_⟩
  · obtain ⟨p, hp, rfl⟩ := List.mem_map.mp hq
    exact c.empty p hp
  · obtain ⟨p, hp, rfl⟩ := List.mem_map.mp hq
    exact c.out p hp
  · obtain ⟨p, hp, rfl⟩ := List.mem_map.mp hq
    exact PySem.W.codeHd_of_K X (c.hd p hp)
end
end AP

namespace AP
noncomputable section
open PySem PySem.Spec PyProof.Rows L2 RZ
section
variable [Tbls] [Gd]
def fdO (cs : List Int) (n l w : Int) : MO := .k (fdl (.list (cs.map .int)) (.int n) (.int l) (.int w))
def FeedOk (fo : MO) : Prop := ∃ cs n l w, fo = fdO cs n l w
theorem FeedOk.fl {fo : MO} (h : FeedOk fo) : flat fo = true := by
  obtain ⟨cs, n, l, w, rfl⟩ := h
  rfl
theorem FeedOk.rf {fo : MO} (h : FeedOk fo) (n : Nat) : refs1 n fo = true := by
  obtain ⟨cs, n, l, w, rfl⟩ := h
  rfl
theorem runF_eq {N : Nat} {m : SM} {fo : MO} {ds : List D} {d : D} {fo' : MO} (h1 : FeedOk fo) (h2 : FeedOk fo') (h : retF (m ⟨st0 N (.m 0 :: ds.map .d), [fo]⟩) = some (d, fo')) : runF N m fo ds = some (d, fo') := flat2_eq h h1.fl h2.fl
theorem feed0_ok (ns : List Int) : FeedOk (feed0 ns) := ⟨ns, 0, 0, 0, rfl⟩
theorem tkW : toKey (.str (Str.ofString "drawn")) = some kW := rfl
theorem tkL : toKey (.str (Str.ofString "left")) = some kL := rfl
theorem tkN : toKey (.str (Str.ofString "next")) = some kN := rfl
theorem tkC : toKey (.str (Str.ofString "cells")) = some kC := rfl
theorem fxW (c n l w : D) : gIx (.dict (kvD (fdl c n l w))) (.str (Str.ofString "drawn")) = some w := by rw [fix _ _ _ _ _ _ tkW, if_neg fk3, if_neg fk5, if_neg fk6, if_pos rfl]
theorem fxL (c n l w : D) : gIx (.dict (kvD (fdl c n l w))) (.str (Str.ofString "left")) = some l := by rw [fix _ _ _ _ _ _ tkL, if_neg fk2, if_neg fk4, if_pos rfl]
theorem fxN (c n l w : D) : gIx (.dict (kvD (fdl c n l w))) (.str (Str.ofString "next")) = some n := by rw [fix _ _ _ _ _ _ tkN, if_neg fk1, if_pos rfl]
theorem fxC (c n l w : D) : gIx (.dict (kvD (fdl c n l w))) (.str (Str.ofString "cells")) = some c := by rw [fix _ _ _ _ _ _ tkC, if_pos rfl]
theorem fpW (c n l w x : D) : putD (fdl c n l w) kW x = fdl c n l x := by unfold fdl; simp only [putD, if_neg fk3, if_neg fk5, if_neg fk6, if_true]
theorem fpL (c n l w x : D) : putD (fdl c n l w) kL x = fdl c n x w := by unfold fdl; simp only [putD, if_neg fk2, if_neg fk4, if_true]
theorem fpN (c n l w x : D) : putD (fdl c n l w) kN x = fdl c x l w := by unfold fdl; simp only [putD, if_neg fk1, if_true]
theorem fdl_nd (c n l w : D) : (fdl c n l w).length < 100000 ∧ ((fdl c n l w).map (·.1)).Nodup := ⟨by show 4 < 100000; decide, by show [kC, kN, kL, kW].Nodup; decide +kernel⟩
theorem lay_ints : ∀ xs : List Int, PyData.canLayAll0 (xs.map .int) = true
  | [] => by simp [PyData.canLayAll0]
  | x :: xs => by simp [PyData.canLayAll0, PyData.canLay0, lay_ints xs]
theorem deep_ints : ∀ xs : List Int, PyData.depthAll (xs.map .int) = 0
  | [] => by simp [PyData.depthAll]
  | x :: xs => by simp [PyData.depthAll, PyData.depth, deep_ints xs]
theorem shapes_ints (xs : List Int) : shp (.list (xs.map .int)) = true := shp_of (by simp [PyData.canLay0, lay_ints]) (by simp [PyData.depth, deep_ints])
theorem shapes_nil : shp (.list []) = true := by decide +kernel
theorem ne_nil : gNe (.list (([] : List Int).map .int)) (.list []) = some (.bool false) := rfl
theorem ne_ints (c : Int) (cs : List Int) : gNe (.list ((c :: cs).map .int)) (.list []) = some (.bool true) := by
  unfold gNe
  simp only [shapes_ints, shapes_nil, Bool.and_self, if_true, PyData.eqv]
  simp only [List.map_cons, PyData.eqvAll, Bool.not_false]
theorem atI_mem {α : Type} {xs : List α} {i : Int} (h0 : 0 ≤ i) (h1 : i < xs.length) : ∃ x, atI xs i = some x ∧ x ∈ xs ∧ xs[i.toNat]? = some x := by
  have hl : i.toNat < xs.length := by omega
  refine ⟨xs[i.toNat], ?_, List.getElem_mem hl, List.getElem?_eq_getElem hl⟩
  unfold atI ixN
  rw [if_pos h0, if_pos h1]
  show xs[i.toNat]? = _
  exact List.getElem?_eq_getElem hl
theorem cell_in (cs : List Int) {i : Int} (h0 : 0 ≤ i) (h1 : i < cs.length) : ∃ c, gIx (.list (cs.map .int)) (.int i) = some (.int c) := by
  obtain ⟨x, e, m, _⟩ := atI_mem (xs := cs.map PyData.int) h0 (by simpa using h1)
  obtain ⟨c, _, rfl⟩ := List.mem_map.mp m
  exact ⟨c, e⟩
theorem pow18 : gPow (.int 10) (.int 18) = some (.int 1000000000000000000) := rfl
theorem mod_e {i j : Int} (h : 0 < j) : gMod (.int i) (.int j) = some (.int (i % j)) := by simp only [gMod, g2I, h, decide_true, if_true]
theorem div_e {i j : Int} (h : 0 < j) (h1 : j < 1073741824) : gDiv (.int i) (.int j) = some (.int (i / j)) := by simp only [gDiv, g2I, h, h1, decide_true, Bool.and_self, if_true]
theorem mul_l {a b : Int} (h1 : -18446744073709551616 < a) (h2 : a < 18446744073709551616) : gMul (.int a) (.int b) = some (.int (a * b)) := by
  unfold gMul g2I
  simp only [Int.reducePow, Int.reduceNeg, decide_eq_true h1, decide_eq_true h2, Bool.and_self, Bool.true_or, if_true]
structure DC where
  c0 : Int
  m1 : Int
  a1 : Int
  b1 : Int
  m2 : Int
  a2 : Int
  b2 : Int
  m3 : Int
  a3 : Int
  m4 : Int
def DC.ok (k : DC) : Bool := decide (0 < k.m1) && (decide (0 < k.m2) && (decide (k.m2 < 4294967296) && (decide (0 < k.m3) && (decide (k.m3 < 4294967296) && (decide (0 < k.m4) && (decide (-4294967296 < k.a1) && (decide (k.a1 < 4294967296) && (decide (-4294967296 < k.a2) && (decide (k.a2 < 4294967296) && (decide (-4294967296 < k.a3) && decide (k.a3 < 4294967296)))))))))))
def mDrawP (k : DC) : SM := (mSeq (mPut (mOp gAddU (mOp gIx (mVar 0) (mC (.str (Str.ofString "drawn")))) (mC (.int 1))) (mVar 0) (mC (.str (Str.ofString "drawn")))) (mSeq (mIfS (mTest (mOp gGtU (mOp gIx (mVar 0) (mC (.str (Str.ofString "left")))) (mC (.int 0)))) (mSeq (mAsg (mOp gMod (mCB gInt (mCons (mOp gIx (mVar 0) (mC (.str (Str.ofString "left")))) mNil)) (mVar 1)) (mgName 4)) (mSeq (mPut (mOp gDiv (mOp gIx (mVar 0) (mC (.str (Str.ofString "left")))) (mVar 1)) (mVar 0) (mC (.str (Str.ofString "left")))) (mRet (mVar 4)))) mNext) (mSeq (mPar 5 6 (mCons (mOp gIx (mVar 0) (mC (.str (Str.ofString "next")))) (mCons (mOp gIx (mVar 0) (mC (.str (Str.ofString "cells")))) mNil))) (mSeq (mPut (mOp gAddU (mVar 5) (mC (.int 1))) (mVar 0) (mC (.str (Str.ofString "next")))) (mSeq (mAsg (mIf (mTest (mOp gNe (mVar 6) (mLst mNil))) (mOp gIx (mVar 6) (mOp gMod (mCB gInt (mCons (mVar 5) mNil)) (mCB gLen (mCons (mVar 6) mNil)))) (mC (.int k.c0))) (mgName 2)) (mSeq (mIfS (mAnd (mTest (mOp gGeU (mVar 2) (mOp gPow (mC (.int 10)) (mC (.int 18))))) (mTest (mOp gLtU (mVar 5) (mCB gLen (mCons (mVar 6) mNil))))) (mSeq (mPut (mOp gDiv (mVar 2) (mVar 1)) (mVar 0) (mC (.str (Str.ofString "left")))) (mRet (mOp gMod (mCB gInt (mCons (mVar 2) mNil)) (mVar 1)))) mNext) (mSeq (mAsg (mOp gMod (mCB gInt (mCons (mOp gAddU (mOp gAddU (mOp gMod (mCB gInt (mCons (mVar 2) mNil)) (mC (.int k.m1))) (mOp gMul (mC (.int k.a1)) (mOp gIx (mVar 0) (mC (.str (Str.ofString "drawn")))))) (mC (.int k.b1))) mNil)) (mC (.int k.m2))) (mgName 3)) (mSeq (mAsg (mOp gMod (mCB gInt (mCons (mOp gAddU (mOp gAddU (mOp gMul (mVar 3) (mVar 3)) (mOp gMul (mC (.int k.a2)) (mOp gIx (mVar 0) (mC (.str (Str.ofString "drawn")))))) (mC (.int k.b2))) mNil)) (mC (.int k.m3))) (mgName 3)) (mRet (mOp gMod (mCB gInt (mCons (mOp gDiv (mOp gMod (mCB gInt (mCons (mOp gAddU (mOp gMul (mVar 3) (mVar 3)) (mOp gMul (mC (.int k.a3)) (mVar 3))) mNil)) (mC (.int k.m4))) (mC (.int 32))) mNil)) (mVar 1)))))))))))
theorem st0_7 (x y : SV) : st0 7 [x, y] = [some x, some y, none, none, none, none, none] := rfl
theorem drawP_ev {k : DC} (hk : k.ok = true) {cs : List Int} {n l w many : Int} (h0 : 0 < many) (h1 : many < 1073741824) : ∃ d n' l' w', runF 7 (mDrawP k) (fdO cs n l w) [.int many] = some (.int d, fdO cs n' l' w') ∧ 0 ≤ d ∧ d < many := by
  obtain ⟨c0, m1, a1, b1, m2, a2, b2, m3, a3, m4⟩ := k
  simp only [DC.ok, Bool.and_eq_true, decide_eq_true_eq] at hk
  obtain ⟨p1, p2, p3, p4, p5, p6, p7, p8, p9, p10, p11, p12⟩ := hk
  have gM1 : ∀ e b : Int, gMul (.int (e % m2)) (.int b) = some (.int ((e % m2) * b)) := fun e b => mul_l (by have := Int.emod_nonneg e (show m2 ≠ 0 by omega); omega) (by have := Int.emod_lt_of_pos e p2; omega)
  have gM2 : ∀ e b : Int, gMul (.int (e % m3)) (.int b) = some (.int ((e % m3) * b)) := fun e b => mul_l (by have := Int.emod_nonneg e (show m3 ≠ 0 by omega); omega) (by have := Int.emod_lt_of_pos e p4; omega)
  have gM3 : ∀ b : Int, gMul (.int a1) (.int b) = some (.int (a1 * b)) := fun b => mul_l (by omega) (by omega)
  have gM4 : ∀ b : Int, gMul (.int a2) (.int b) = some (.int (a2 * b)) := fun b => mul_l (by omega) (by omega)
  have gM5 : ∀ b : Int, gMul (.int a3) (.int b) = some (.int (a3 * b)) := fun b => mul_l (by omega) (by omega)
  unfold runF mDrawP fdO
  simp only [List.map_cons, List.map_nil, st0_7]
  have tl : ∀ e : Int, 0 ≤ e % many ∧ e % many < many := fun e => ⟨Int.emod_nonneg _ (by omega), Int.emod_lt_of_pos _ h0⟩
  by_cases hl : 0 < l
  · refine ⟨l % many, n, l / many, w + 1, ?_, tl _⟩
    simp only [mSeq, mPut, mOp, mVar, mC, mIfS, mTest, mAsg, mgName, mCB, mCons, mNil, mRet, mNext, S.on, vw, vws, gS_eq, sS_eq, List.getElem?_cons_zero, List.getElem?_cons_succ, List.set_cons_zero, List.set_cons_succ,
      fxW, fxL, fxN, fxC, tkW, tkL, tkN, tkC, fpW, fpL, fpN, fdl_nd, and_self, if_true, gAddU, g2I, oel, gGtU, gInt, mod_e, div_e, hl, h0, h1, decide_true, retF, flat2_kk, Bool.and_self]
  · have cell : ∃ c : Int, ∀ (a b : Option SV) (q e : Option SV) (o : List MO), mIf (mTest (mOp gNe (mVar 6) (mLst mNil))) (mOp gIx (mVar 6) (mOp gMod (mCB gInt (mCons (mVar 5) mNil)) (mCB gLen (mCons (mVar 6) mNil)))) (mC (.int c0))
        ⟨[a, b, q, e, none, some (.d (.int n)), some (.d (.list (cs.map .int)))], o⟩ = some (.d (.int c), o) := by
      cases cs with
      | nil => exact ⟨c0, fun a b q e o => by simp only [mIf, mTest, mOp, mVar, mLst, mNil, S.on, vw, vws, dats, gS_eq, sS_eq, List.getElem?_cons_zero, List.getElem?_cons_succ, ne_nil, mC, List.length_nil, Nat.zero_le, if_true]⟩
      | cons x xs =>
        have hp : (0 : Int) < ((x :: xs).map PyData.int).length := by simp only [List.length_map, List.length_cons]; omega
        obtain ⟨c, hc⟩ := cell_in (x :: xs) (i := n % ((x :: xs).map PyData.int).length) (Int.emod_nonneg _ (by omega)) (by
          have := Int.emod_lt_of_pos n hp
          simpa using this)
        exact ⟨c, fun a b q e o => by simp only [mIf, mTest, mOp, mVar, mLst, mNil, mCons, mCB, gInt, gLen, gMod, g2I, S.on, vw, vws, dats, gS_eq, sS_eq, List.getElem?_cons_zero, List.getElem?_cons_succ, ne_ints, mC, List.length_nil, Nat.zero_le, if_true, hp, decide_true, hc]⟩
    obtain ⟨c, hc⟩ := cell
    by_cases b1' : (1000000000000000000 : Int) ≤ c ∧ n < ((cs.map PyData.int).length : Int)
    · obtain ⟨q1, q2⟩ := b1'
      refine ⟨c % many, n + 1, c / many, w + 1, ?_, tl _⟩
      simp only [mSeq, mPut, mOp, mVar, mC, mIfS, mTest, mAsg, mgName, mCB, mCons, mNil, mRet, mNext, mPar, mAnd, S.on, vw, vws, gS_eq, sS_eq, List.getElem?_cons_zero, List.getElem?_cons_succ, List.set_cons_zero, List.set_cons_succ, hc, pow18,
          fxW, fxL, fxN, fxC, tkW, tkL, tkN, tkC, fpW, fpL, fpN, fdl_nd, and_self, if_true, gAddU, g2I, oel, gGtU, gGeU, gLtU, gLen, gInt, mod_e, div_e, hl, h0, h1, q1, q2, decide_true, decide_false, retF, flat2_kk, Bool.and_self]
    · refine ⟨((((((c % m1 + a1 * (w + 1) + b1) % m2) * (((c % m1 + a1 * (w + 1) + b1) % m2)) + a2 * (w + 1) + b2) % m3) * ((((c % m1 + a1 * (w + 1) + b1) % m2) * (((c % m1 + a1 * (w + 1) + b1) % m2)) + a2 * (w + 1) + b2) % m3) + a3 * ((((c % m1 + a1 * (w + 1) + b1) % m2) * (((c % m1 + a1 * (w + 1) + b1) % m2)) + a2 * (w + 1) + b2) % m3)) % m4 / 32) % many, n + 1, l, w + 1, ?_, tl _⟩
      by_cases q1 : (1000000000000000000 : Int) ≤ c
      · have q2 : ¬ n < ((cs.map PyData.int).length : Int) := fun z => b1' ⟨q1, z⟩
        simp only [mSeq, mPut, mOp, mVar, mC, mIfS, mTest, mAsg, mgName, mCB, mCons, mNil, mRet, mNext, mPar, mAnd, S.on, vw, vws, gS_eq, sS_eq, List.getElem?_cons_zero, List.getElem?_cons_succ, List.set_cons_zero, List.set_cons_succ, hc, pow18, gM1, gM2, gM3, gM4, gM5, Int.reduceLT, p1, p2, p4, p6,
          fxW, fxL, fxN, fxC, tkW, tkL, tkN, tkC, fpW, fpL, fpN, fdl_nd, and_self, if_true, gAddU, g2I, oel, gGtU, gGeU, gLtU, gLen, gInt, mod_e, div_e, hl, h0, h1, q1, q2, decide_true, decide_false, retF, flat2_kk, Bool.and_self]
      · simp only [mSeq, mPut, mOp, mVar, mC, mIfS, mTest, mAsg, mgName, mCB, mCons, mNil, mRet, mNext, mPar, mAnd, S.on, vw, vws, gS_eq, sS_eq, List.getElem?_cons_zero, List.getElem?_cons_succ, List.set_cons_zero, List.set_cons_succ, hc, pow18, gM1, gM2, gM3, gM4, gM5, Int.reduceLT, p1, p2, p4, p6,
          fxW, fxL, fxN, fxC, tkW, tkL, tkN, tkC, fpW, fpL, fpN, fdl_nd, and_self, if_true, gAddU, g2I, oel, gGtU, gGeU, gLtU, gLen, gInt, mod_e, div_e, hl, h0, h1, q1, decide_true, decide_false, retF, flat2_kk, Bool.and_self]
theorem drawP {k : DC} (hk : k.ok = true) {fo : MO} (h : FeedOk fo) {many : Int} (h0 : 0 < many) (h1 : many < 1073741824) : ∃ d fo', runF 7 (mDrawP k) fo [.int many] = some (.int d, fo') ∧ 0 ≤ d ∧ d < many ∧ FeedOk fo' := by
  obtain ⟨cs, n, l, w, rfl⟩ := h
  obtain ⟨d, n', l', w', e, a, b⟩ := drawP_ev hk (cs := cs) (n := n) (l := l) (w := w) h0 h1
  exact ⟨d, _, e, a, b, cs, n', l', w', rfl⟩
def mAnyP (k : DC) : SM := (mRet (mOp gIx (mVar 1) (mCallF 2 (runF 7 (mDrawP k)) (mCons (mVar 0) (mCons (mCB gLen (mCons (mVar 1) mNil)) mNil)))))
theorem anyP_l {k : DC} (hk : k.ok = true) {fo : MO} (h : FeedOk fo) {L : List D} (h0 : L ≠ []) (h1 : L.length < 1000000) : ∃ x fo', runF 2 (mAnyP k) fo [.list L] = some (x, fo') ∧ x ∈ L ∧ FeedOk fo' := by
  have hp : 0 < L.length := List.length_pos_iff.mpr h0
  obtain ⟨d, fo', e, a, b, f⟩ := drawP hk h (many := (L.length : Int)) (by omega) (by omega)
  obtain ⟨x, e2, m, _⟩ := atI_mem (xs := L) a b
  refine ⟨x, fo', ?_, m, f⟩
  refine runF_eq h f ?_
  show retF (mAnyP k ⟨[some (.m 0), some (.d (.list L))], [fo]⟩) = _
  unfold mAnyP
  simp only [mRet, mOp, mVar, mCallF, mCons, mCB, mNil, S.on, vw, vws, dats, gS_eq, sS_eq, List.getElem?_cons_zero, List.getElem?_cons_succ, List.set_cons_zero, gLen, e, gIx, e2, retF, flat2_kk, List.length_cons, List.length_nil, Nat.reduceAdd, Nat.zero_add, if_true]
end
end
end AP

namespace AP
noncomputable section
open PySem PySem.Spec PyProof.Rows L2 RZ
section
variable [Tbls] [Gd]
end
end
end AP

namespace AP
noncomputable section
open PySem PySem.Spec PyProof.Rows L2 RZ
section
variable [Tbls] [Gd]
def menus8 : List (List Str) := [["a", "b", "c", "d", "e", "f", "g", "h"].map Str.ofString, ["houses", "none", "ab", "aba", "b", "ba", "abc", "lay"].map Str.ofString, ["zzzzzzzz", "zzzzzzza", "z", "zz", "y", "yz", "x", "give"].map Str.ofString]
def turned : List (List Str) := menus8.flatMap fun m => (List.range 8).map fun k => m.drop k ++ m.take k
def isRt : Option Out → Bool
  | some (.rt (.d (.bool true)) _) => true
  | _ => false
theorem isRt_ok {r : Option Out} (h : isRt r = true) : ∃ o, r = some (.rt (.d (.bool true)) o) := by
  unfold isRt at h
  split at h
  · exact ⟨_, rfl⟩
  · cases h
end
end
end AP

namespace AP
noncomputable section
open PySem PySem.Spec PyProof.Rows L2 RZ
section
variable [Tbls] [Gd]
def noZ : Zs := fun _ => False
theorem Rt.low {Z : Zs} {H : Hp} {v : V} {d : D} (h : Rt Z H v d) : Rp noZ H v d := by
  have lo : ∀ {xs : List V} {ds : List D}, RpA Z H xs ds → RpA noZ H xs ds := fun r => r.mono fun a o _ e _ => ⟨fun z => z, e⟩
  have lk : ∀ {xs : List (Key × V)} {ds : List (D × D)}, RpK Z H xs ds → RpK noZ H xs ds := fun r => r.mono fun a o _ e _ => ⟨fun z => z, e⟩
  cases d with
  | none => cases h; exact .non
  | bool b => cases h; exact .bl b
  | int i => cases h; exact .int i
  | str x => cases h; exact .str x
  | list ds => obtain ⟨a, xs, rfl, e, r⟩ := h; exact .lst (fun z => z) e (lo r)
  | tuple ds => obtain ⟨a, xs, rfl, e, r, _⟩ := h; exact .tup (fun z => z) e (lo r)
  | dict ps => obtain ⟨a, xs, rfl, e, r⟩ := h; exact .dct (fun z => z) e (lk r)
theorem RtA.low {Z : Zs} {H : Hp} : ∀ {vs : List V} {ds : List D}, RtA Z H vs ds → RpA noZ H vs ds
  | _, _, .nil => .nil
  | _, _, .cons h r => .cons h.low (RtA.low r)
def flatD : D → Bool
  | .none => true
  | .bool _ => true
  | .int _ => true
  | .str _ => true
  | _ => false
theorem Rp.flat {Z Z' : Zs} {H : Hp} {v : V} {d : D} (h : Rp Z H v d) (f : flatD d = true) : Rp Z' H v d := by
  cases h with
  | non => exact .non
  | bl b => exact .bl b
  | int i => exact .int i
  | str x => exact .str x
  | _ => cases f
end
end
end AP

namespace AP
noncomputable section
open PySem PySem.Spec PyProof.Rows L2 RZ
variable [Tbls] [Gd]
def gEi (K : PySem.W.Frag) (n : Nat) (t : TGs) : TG := fun v σ H Q => gTup K n t v σ H Q ∨ gLst K n t v σ H Q
theorem pg_ei {X : Cx} {pos : Pos} {es : List Expr} {k : Nat} {t : TGs} {n : Nat} (hc : X.calm = true) (h : PGs X es t)
    (hn : (assignEach es X.env).length = n := by rfl) (hst : (assignEach es X.env).findIdx? (·.1) = none := by rfl) : PG X (.Tuple es k pos) (gEi X.K n t) := by
  refine ⟨fun pins s σ H v u Q I r hw => ?_⟩
  rcases hw with z | z
  · exact (pg_tup hc h hn hst).run pins s σ H v u Q I r z
  · exact (pg_lst hc h hn hst).run pins s σ H v u Q I r z
def mgSeq (n : Nat) (a : GMs) : GM := fun v s => match v with
  | .d (.tuple ds) => if ds.length = n then a ds s else none
  | .d (.list ds) => if ds.length = n then a ds s else none
  | _ => none
theorem sg_seq {K : PySem.W.Frag} {n : Nat} {t : TGs} {a : GMs} (ha : SnGs t a) : SnG (gEi K n t) (mgSeq n a) := by
  intro Z M s σ H h v sv r s' e Q q
  unfold mgSeq at e
  split at e
  · exact .inl (sg_tup (K := K) (n := n) ha Z M s σ H h v _ r s' e Q q)
  · rename_i ds
    split at e
    · rename_i hl
      have r2 : Rp (zz Z M) H v (.list ds) := r
      cases r2 with
      | lst z ha2 ra => exact .inr ⟨_, _, rfl, SqL.of ha2, by rw [ra.length]; exact hl, ha Z M s σ H h _ ds ra s' e Q q⟩
    · cases e
  · cases e
section
variable {X : Cx} {W : WX}
end
section
variable {Y : Cx} {E : XK} {e : Expr} {es : List Expr} {ps : List Str} {sp : Sp} {x : Str} {f : Addr} {fd : FuncData} {j k : Nat} {t : TA} {p pos : Pos}
omit [Gd] in
omit [Gd] in
end
end
end AP

namespace AP
noncomputable section
open PySem PySem.Spec PyProof.Rows L2 RZ
variable [Tbls] [Gd]
def rSortT (K : PySem.W.Frag) : List V → Hp → VK → Prop := fun vs H Q => ∃ (a : Addr) (ks : List Str), vs = [.ref a] ∧ SqT K H a (ks.map V.str) ∧ ks.length < 64 ∧
  ∀ ys p, ys.Perm ks → sortedS ys = true → H p = none → Q (.ref p) (upd H p (.lst (ys.map V.str)))
theorem cr_sortTup {X : Cx} (hcalm : X.calm = true) : CallR X (.builtin "sorted") (rSortT X.K) := by
  intro pins s σ H vs us Q I r q
  obtain ⟨a, ks, ex, hq, h64, q⟩ := q
  subst ex
  obtain ⟨u, eu, rx⟩ := vals1 r
  subst eu
  cases rx
  obtain ⟨its, rv, pl, hz⟩ := I.tuple hq
  have hS : StrsAre its ks := rv.strs
  have hal : its.length = ks.length := by have := rv.length; rw [List.length_map] at this; exact this.symm
  obtain ⟨o, ho, hc, n, hd⟩ := pl
  refine Calls.call_function_entry PyProof.Rows.kind_sorted PyProof.Rows.plain_sorted PyProof.Rows.entry_sorted (PyProof.Rows.args_sorted1 _) ?_
  unfold Builtin.«sorted»
  refine wpAny_bind (m := checkCount "sorted" 1 1 _) (wpAny_pure ?_)
  refine wpAny_bind (wpAny_collect_seq a (.inr rfl) ho hc hd (fun h' hk => ?_) (by simpa [hal] using small64 h64))
  have I1 : Inv X pins σ H { s with heap := h', toks := s.toks } := I.kept hk
  have e0 : its.toArray.toList = its := by simp
  rw [e0]
  refine wpAny_bind (wpAny_newList ?_ (by rw [hal, sizeLine_eq]; omega))
  have hoL : (h'.push (seqObj "list" its.toArray 0)).get? h'.objs.size = some (seqObj "list" its.toArray 0) := Heap.get?_push_size _ rfl
  show wpAny _ _ _ _ _ { s with heap := h'.push (seqObj "list" its.toArray 0), toks := s.toks }
  refine wpAny_bind (wpAny_holding (wpAny_call_entry PyProof.Rows.slot_list_sort ⟨_, hoL, rfl⟩ PyProof.Rows.entry_list_sort
    (list_sort_treeK strKind_oneLt (s := { s with heap := h'.push (seqObj "list" its.toArray 0), toks := s.toks }) hoL hS.keysOf (fun v₁ v₂ rest e => keyKind_strs (by rw [← e]; exact hS)) (by rw [hal]; exact h64) fun st' hp hs => ⟨_, rfl, ?_⟩)
    (PyProof.Rows.args_list_sort _)))
  obtain ⟨ys, g1, g2, g3⟩ := sorted_out_str hS hp hs
  obtain ⟨e', he'⟩ := PyProof.Rows.sortedHeap_at (vs := its) (out := (arrOf st').map (·.2)) hoL
  have hlen : (ys.map V.str).length ≤ sizeLine := by rw [List.length_map, g2.length_eq]; exact small64 h64
  refine wpAny_pure ⟨_, rfl, .ref h'.objs.size, upd H h'.objs.size (.lst (ys.map V.str)), I1.laid (t' := s.toks) (fun b u e => ?_) (Nat.le_refl _)
    (show ObjOk X.prog X.w _ _ _ (.lst (ys.map V.str)) from ⟨hlen, ((arrOf st').map (·.2)).toList, e', vals_of_strs g1, by rw [Array.toArray_toList]; exact he'⟩), rfl, q ys _ g2 g3 (I1.hok.fresh (Nat.le_refl _))⟩
  have hb : b < h'.objs.size := Heap.lt_size e
  rw [PyProof.Rows.sortedHeap_old (Nat.ne_of_lt hb) (by rw [size_push']; exact Nat.lt_succ_of_lt hb)]
  exact Heap.get?_push_of_some _ e
def rSortW (K : PySem.W.Frag) : List V → Hp → VK → Prop := fun xs H Q => rSortU K xs H Q ∨ rSortT K xs H Q
theorem cr_sortW {X : Cx} (hc : X.calm = true) : CallR X (.builtin "sorted") (rSortW X.K) := (cr_sortU hc).or (cr_sortTup hc)
def gSortedW : List D → Option D
  | [.tuple ds] => (match strsOf ds with
    | some ks => if ks.length < 64 then some (.list ((sortS ks).map .str)) else none
    | none => none)
  | ds => gSortedU ds
theorem rc_sortedW {K : PySem.W.Frag} : RCD (rSortW K) gSortedW := by
  intro Z H hz vs ds d r e Q q
  unfold gSortedW at e
  split at e
  · split at e
    · rename_i ks hk
      split at e
      · rename_i h64
        cases e
        cases r with
        | cons h t =>
          cases t
          obtain ⟨a, us, rfl, ha, ra, nz⟩ := h
          obtain ⟨rfl, _⟩ := strsOf_ok ra hk
          refine .inr ⟨a, ks, rfl, ha.sq, h64, fun ys p hp hs hn => ?_⟩
          obtain rfl := sortS_only hp hs
          exact q _ _ (New.upd hn) (.lst (fresh_nz hz hn) upd_same (rpA_strs _))
      · cases e
    · cases e
  · exact .inl (rc_sortedU Z H hz vs _ d r e Q q)
end
end AP

namespace AP
noncomputable section
open PySem PySem.Spec PyProof.Rows L2 RZ
section
variable {prog : Program} {w : World} {A : Around} {E : Value → Shared → Prop} {s : Shared}
end
section
variable {X : Cx}
theorem PE.or2 {e : Expr} {t t' : TE} (h : PE X e t) (h' : PE X e t') : PE X e (fun σ H Q => t σ H Q ∨ t' σ H Q) :=
  ⟨fun pins s σ H Q I q => q.elim (h.run pins s σ H Q I) (h'.run pins s σ H Q I)⟩
def tyF (K : PySem.W.Frag) (T : String) (x : V) (H : Hp) : Prop := tyV K T x H ∨ (T = "tuple" ∧ ∃ p o xs, x = .ref p ∧ H p = some (.frz o (.tup xs)) ∧ o.dict = none)
theorem tyF_is {pins : List (Addr × Obj)} {σ : L2.St} {H : Hp} {s : Shared} {T : String} {x : V} {v : Value} (I : L2.Inv X pins σ H s) (r : RelV x v) (ty : tyF X.K T x H) :
    s.TypeIs v T ∧ ∀ a, v = .ref a → ∃ ob, s.heap.get? a = some ob ∧ ob.dict = none := by
  rcases ty with ty | ⟨rfl, p, o, xs, rfl, hp, hd⟩
  · exact tyV_is I r ty
  · cases r
    obtain ⟨its, rv, ht, hz⟩ := I.tuple (a := p) (xs := xs) (.inl (.inr ⟨o, hp⟩))
    refine ⟨ht.typeIs, fun a e => ?_⟩
    cases e
    obtain ⟨hg, _⟩ := I.hok p _ hp
    exact ⟨o, hg, hd⟩
def tBMF (K : PySem.W.Frag) (T : String) (r : V → List V → Hp → VK → Prop) (to : TE) (t : TA) : TE := fun σ H Q => to σ H fun x H1 => tyF K T x H1 ∧ t σ H1 fun xs H2 => r x xs H2 Q
theorem pe_bmF {o e : Expr} {es : List Expr} {to : TE} {t : TA} {name : Str} {apos cpos : Pos} {T id : String} {r : V → List V → Hp → VK → Prop} (pa : PlainAttrs T) (slot : Slot T name id) (hty : typeOf (.builtin id) = pure (.type "method_descriptor")) (hm : MtR X id r) (ho : PE X o to) (ha : PA X (e :: es) t)
    (hbase : attributeBase o name X.env (eval o X.env) = eval o X.env := by rfl)
    (hfew : ((backTo cpos (starEach (e :: es) X.env)).all (fun x => !x.1) && (backToKw cpos (keywordEach [] X.env)).all (fun x => x.1.isSome)
      && decide ((e :: es).length + ([] : List Keyword).length + (if ([] : List Keyword).isEmpty then 0 else 1) < 30)) = true := by rfl)
    (hline : (apos.endLine == cpos.line) = true := by rfl) (hs : starEach (e :: es) X.env = (false, eval e X.env) :: starEach es X.env := by rfl) (hplain : (backTo cpos (starEach es X.env)).any (·.1) = false := by rfl) :
    PE X (.Call (.Attribute o name apos) (e :: es) [] cpos) (tBMF X.K T r to t) := by
  refine ⟨fun pins s σ H Q I h => ?_⟩
  refine wpAny_Call_method_late hbase hfew hline rfl (thn (ho.run pins s σ H _ I h) fun v s1 ⟨x, H1, I1, r1, ty, q1⟩ => ?_)
  obtain ⟨h1, h2⟩ := tyF_is I1 r1 ty
  refine ⟨T, id, pa, slot, hty, h1, h2, ?_⟩
  have hA := ha.run cpos pins s1 σ H1 _ I1 q1
  rw [hs] at hA ⊢
  refine Calls.callWith_builtin (by show (false || (backTo cpos (starEach es X.env)).any (·.1)) = false; rw [hplain] <;> rfl) (Calls.evalArgs_plain ?_)
  exact thn hA fun us s2 ⟨vs, H2, I2, r2, q2⟩ => hm pins s2 σ H2 x vs v us Q I2 r1 r2 q2
def cntD (ds : List D) (d : D) : Nat := ds.countP fun y => PyData.eqv y d
theorem count_of {s : Shared} {its : List Value} {ds : List D} {d : D} (hmap : its.map (SeqAt.readOf s.heap) = ds) : its.toArray.toList.countP (fun u => PyData.eqv (SeqAt.readOf s.heap u) d) = cntD ds d := by
  unfold cntD
  rw [← hmap, List.countP_map]
  rfl
def rCntT (K : PySem.W.Frag) : V → List V → Hp → VK → Prop := fun x xs H Q => ∃ (a : Addr) (y : V) (d : PyData) (ds : List PyData), x = V.ref a ∧ xs = [y] ∧ Dp K H (V.ref a) (.tuple ds) ∧ Dp K H y d ∧
  SeqAt.shaped (.tuple ds) = true ∧ SeqAt.shaped d = true ∧ Q (.int (cntD ds d : Nat)) H
theorem mt_cntT (hu : X.A.units + 65 < cLine) : MtR X "tuple.count" (rCntT X.K) := by
  intro pins s σ H x xs v us Q I rx rxs h
  obtain ⟨a, y, d, ds, rfl, rfl, hl, hy, sl, sd, q⟩ := h
  cases rx
  cases rxs with
  | cons ry rt =>
    rename_i uy ut
    cases rt
    obtain ⟨bs, r1⟩ := Dp.reads I d y uy hy ry
    have hxs : PyData.canLayAll0 ds = true := SeqAt.canLay_of_shaped sl
    have hroom : X.A.units + 1 + min (PyData.depthAll ds) d.depth < cLine := room_in_shaped sd hu
    cases hl with
    | tup hs ha =>
      obtain ⟨its, rv, ⟨⟨cls, dd, data, sls⟩, ho, hc, n, hdt⟩, hlen⟩ := I.tuple hs
      simp only at hc hdt
      subst hc hdt
      obtain ⟨as, h4⟩ := Dp.readsAll I ds _ its ha rv
      have hmap : its.map (SeqAt.readOf s.heap) = ds := SeqAt.readsAll_map ds its as hxs h4
      refine call_meets PySem.F.slot_tuple_count ⟨_, ho, rfl⟩ PySem.F.entry_tuple_count (PySem.F.args_tuple_count_2 _ _)
        (SeqAt.tuple_countAt a its.toArray n dd sls uy (fun u => PyData.eqv (SeqAt.readOf s.heap u) d)) ⟨ho, SeqAt.items_eqAt (vs := its.toArray) (show ReadsAll s.heap its.toArray.toList ds as from h4) r1 hxs (SeqAt.canLay_of_shaped sd) hroom, ?_⟩
      rw [count_of hmap]
      exact ⟨.int (cntD ds d : Nat), H, I.tok _, ⟨_, rfl⟩, q⟩
def rCntL (K : PySem.W.Frag) : V → List V → Hp → VK → Prop := fun x xs H Q => ∃ (a : Addr) (y : V) (d : PyData) (ds : List PyData), x = V.ref a ∧ xs = [y] ∧ Dp K H (V.ref a) (.list ds) ∧ Dp K H y d ∧
  SeqAt.shaped (.list ds) = true ∧ SeqAt.shaped d = true ∧ Q (.int (cntD ds d : Nat)) H
theorem mt_cntL (hu : X.A.units + 65 < cLine) : MtR X "list.count" (rCntL X.K) := by
  intro pins s σ H x xs v us Q I rx rxs h
  obtain ⟨a, y, d, ds, rfl, rfl, hl, hy, sl, sd, q⟩ := h
  cases rx
  cases rxs with
  | cons ry rt =>
    rename_i uy ut
    cases rt
    obtain ⟨bs, r1⟩ := Dp.reads I d y uy hy ry
    have hxs : PyData.canLayAll0 ds = true := SeqAt.canLay_of_shaped sl
    have hroom : X.A.units + 1 + min (PyData.depthAll ds) d.depth < cLine := room_in_shaped sd hu
    cases hl with
    | lst hs ha =>
      obtain ⟨its, rv, ⟨⟨cls, dd, data, sls⟩, n, ho, hc, hdn, hdt⟩, hlen⟩ := I.list hs
      simp only at hc hdt
      subst hc hdt
      obtain ⟨as, h4⟩ := Dp.readsAll I ds _ its ha rv
      have hmap : its.map (SeqAt.readOf s.heap) = ds := SeqAt.readsAll_map ds its as hxs h4
      refine call_meets PySem.F.slot_list_count ⟨_, ho, rfl⟩ PySem.F.entry_list_count (PySem.F.args_list_count_2 _ _)
        (SeqAt.list_countAt a its.toArray n dd sls uy (fun u => PyData.eqv (SeqAt.readOf s.heap u) d)) ⟨ho, SeqAt.items_eqAt (vs := its.toArray) (show ReadsAll s.heap its.toArray.toList ds as from h4) r1 hxs (SeqAt.canLay_of_shaped sd) hroom, ?_⟩
      rw [count_of hmap]
      exact ⟨.int (cntD ds d : Nat), H, I.tok _, ⟨_, rfl⟩, q⟩
end
end
end AP

namespace AP
noncomputable section
open PySem PySem.Spec PyProof.Rows L2 RZ
variable [Tbls] [Gd]
def mBM (ok : D → Bool) (g : D → D → Option D) (a b : EM) : EM := fun s => match a s with
  | none => none
  | some (x, o1) => match vw o1 x with
    | none => none
    | some d0 => if ok d0 = true then (match b (s.on o1) with
      | none => none
      | some (y, o2) => match vw o2 x, vw o2 y with
        | some d1, some d2 => (match g d1 d2 with
          | some d => some (.d d, o2)
          | none => none)
        | _, _ => none) else none
theorem sn_bm {K : PySem.W.Frag} {T : String} {r : V → List V → Hp → VK → Prop} {ok : D → Bool} {g : D → D → Option D} {ta tb : TE} {a b : EM} (ht : ∀ Z H v d, Rt Z H v d → ok d = true → tyF K T v H) (hr : RMD r g) (ha : Sn ta a) (hb : Sn tb b) :
    Sn (tBMF K T r ta (tCons tb tNil)) (mBM ok g a b) := by
  intro Z M s σ H h w o' e Q q
  unfold mBM at e
  split at e
  · cases e
  · rename_i x o1 ea
    split at e
    · cases e
    · rename_i d0 w0
      split at e
      · rename_i hok
        refine ha Z M s σ H h x o1 ea _ fun M1 v1 H1 e1 h1 r1 => ⟨ht _ _ _ _ (vw_ok h1.r r1 w0) hok, ?_⟩
        split at e
        · cases e
        · rename_i y o2 eb
          refine hb Z M1 (s.on o1) σ H1 h1 y o2 eb _ fun M2 v2 H2 e2 h2 r2 => ?_
          split at e
          · rename_i d1 d2 w1 w2
            split at e
            · rename_i d hd
              cases e
              refine hr (zz Z M2) H2 h2.r.zzd _ v2 d1 d2 d (vw_ok h2.r (e2.rv r1) w1) (vw_ok h2.r r2 w2) hd Q fun v H' n p => ?_
              exact q M2 v H' ((e1.trans e2).trans (Ex2.new n)) (h2.new n) p
            · cases e
          · cases e
      · cases e
def okTup : D → Bool
  | .tuple ds => !weakD ds
  | _ => false
def okLst : D → Bool
  | .list _ => true
  | _ => false
theorem ty_tup {K : PySem.W.Frag} : ∀ Z H v d, Rt Z H v d → okTup d = true → tyF K "tuple" v H := by
  intro Z H v d r h
  cases d with
  | tuple ds =>
    obtain ⟨a, xs, rfl, ha, _, _⟩ := r
    rcases ha with ⟨o, e, hd⟩ | ⟨w, _⟩
    · exact .inr ⟨rfl, a, o, xs, rfl, e, hd⟩
    · simp [okTup, w] at h
  | _ => simp [okTup] at h
theorem ty_lst {K : PySem.W.Frag} : ∀ Z H v d, Rt Z H v d → okLst d = true → tyF K "list" v H := by
  intro Z H v d r h
  cases d with
  | list ds =>
    obtain ⟨a, xs, rfl, ha, _⟩ := r
    exact .inl (.inl ⟨rfl, xs, SqL.of ha⟩)
  | _ => simp [okLst] at h
def gCntT : D → D → Option D
  | .tuple ds, d => if (shp d && shp (.tuple ds)) = true then some (.int (cntD ds d : Nat)) else none
  | _, _ => none
theorem rm_cntT {K : PySem.W.Frag} : RMD (rCntT K) gCntT := by
  intro Z H hz v1 v2 d1 d2 d r1 r2 e Q q
  unfold gCntT at e
  split at e
  · rename_i ds
    split at e
    · rename_i h
      cases e
      simp only [shp, Bool.and_eq_true] at h
      have r1' := r1
      obtain ⟨a, us, rfl, ha, ra, _⟩ := r1'
      exact ⟨a, v2, d2, ds, rfl, rfl, r1.dp h.2.1, r2.dp h.1.1, h.2.2, h.1.2, q _ H (New.refl H) (.int _)⟩
    · cases e
  · cases e
def gCntL : D → D → Option D
  | .list ds, d => if (shp d && shp (.list ds)) = true then some (.int (cntD ds d : Nat)) else none
  | _, _ => none
theorem rm_cntL {K : PySem.W.Frag} : RMD (rCntL K) gCntL := by
  intro Z H hz v1 v2 d1 d2 d r1 r2 e Q q
  unfold gCntL at e
  split at e
  · rename_i ds
    split at e
    · rename_i h
      cases e
      simp only [shp, Bool.and_eq_true] at h
      have r1' := r1
      obtain ⟨a, us, rfl, ha, ra⟩ := r1'
      exact ⟨a, v2, d2, ds, rfl, rfl, r1.dp h.2.1, r2.dp h.1.1, h.2.2, h.1.2, q _ H (New.refl H) (.int _)⟩
    · cases e
  · cases e
section
variable {X : Cx} {o e : Expr} {to te : TE} {apos cpos : Pos}
def tSeqM (K : PySem.W.Frag) (rt rl : V → List V → Hp → VK → Prop) (to te : TE) : TE := fun σ H Q => tBMF K "tuple" rt to (tCons te tNil) σ H Q ∨ tBMF K "list" rl to (tCons te tNil) σ H Q
def mSeqM (gt gl : D → D → Option D) (a b : EM) : EM := fun s => match mBM okTup gt a b s with
  | some x => some x
  | none => mBM okLst gl a b s
theorem sn_seqM {K : PySem.W.Frag} {rt rl : V → List V → Hp → VK → Prop} {gt gl : D → D → Option D} {ta tb : TE} {a b : EM} (ht : RMD rt gt) (hl : RMD rl gl) (ha : Sn ta a) (hb : Sn tb b) : Sn (tSeqM K rt rl ta tb) (mSeqM gt gl a b) := by
  intro Z M s σ H h w o' e Q q
  unfold mSeqM at e
  split at e
  · rename_i x hx
    cases e
    exact .inl (sn_bm ty_tup ht ha hb Z M s σ H h _ _ hx Q q)
  · exact .inr (sn_bm ty_lst hl ha hb Z M s σ H h _ _ e Q q)
theorem pe_count (hu : X.A.units + 65 < cLine) (ho : PE X o to) (he : PE X e te)
    (hbase : attributeBase o "count" X.env (eval o X.env) = eval o X.env := by rfl)
    (hfew : ((backTo cpos (starEach [e] X.env)).all (fun x => !x.1) && (backToKw cpos (keywordEach [] X.env)).all (fun x => x.1.isSome)
      && decide ([e].length + ([] : List Keyword).length + (if ([] : List Keyword).isEmpty then 0 else 1) < 30)) = true := by rfl)
    (hline : (apos.endLine == cpos.line) = true := by rfl) (hs : starEach [e] X.env = (false, eval e X.env) :: starEach [] X.env := by rfl) (hplain : (backTo cpos (starEach [] X.env)).any (·.1) = false := by rfl) :
    PE X (.Call (.Attribute o "count" apos) [e] [] cpos) (tSeqM X.K (rCntT X.K) (rCntL X.K) to te) :=
  PE.or2 (pe_bmF F.plainAttrs_tuple F.slot_tuple_count F.type_tuple_count (mt_cntT hu) ho (pa_cons he pa_nil hs) hbase hfew hline hs hplain) (pe_bmF F.plainAttrs_list F.slot_list_count F.type_list_count (mt_cntL hu) ho (pa_cons he pa_nil hs) hbase hfew hline hs hplain)
end
end
end AP

namespace AP
noncomputable section
open PySem PySem.Spec PyProof.Rows L2 RZ
variable [Tbls] [Gd]
end
end AP

namespace AP
noncomputable section
open PySem PySem.Spec PyProof.Rows L2 RZ
variable [Tbls] [Gd]
abbrev rNotN : R2 := fun x y H Q => y = .non ∧ Q (.bl (!decide (x = .non))) H
def isN : D → Bool
  | .none => true
  | _ => false
def gIsNot (a b : D) : Option D := match b with
  | .none => some (.bool (!isN a))
  | _ => none
theorem isN_ok {Z : Zs} {H : Hp} {v : V} {d : D} (h : Rt Z H v d) : decide (v = V.non) = isN d := by
  cases d with
  | none => cases h; rfl
  | bool b => cases h; exact decide_eq_false fun z => nomatch z
  | int i => cases h; exact decide_eq_false fun z => nomatch z
  | str x => cases h; exact decide_eq_false fun z => nomatch z
  | list ds => obtain ⟨a, xs, rfl, _⟩ := h; exact decide_eq_false fun z => nomatch z
  | tuple ds => obtain ⟨a, xs, rfl, _⟩ := h; exact decide_eq_false fun z => nomatch z
  | dict ps => obtain ⟨a, xs, rfl, _⟩ := h; exact decide_eq_false fun z => nomatch z
theorem r2_notN : R2D rNotN gIsNot := by
  intro Z H hz v1 v2 d1 d2 d r1 r2 e Q q
  unfold gIsNot at e
  split at e
  · cases e
    cases r2
    refine ⟨rfl, ?_⟩
    rw [isN_ok r1]
    exact q _ H (New.refl H) (.bl _)
  · cases e
def sumI : List Int → Int
  | [] => 0
  | x :: r => x + sumI r
theorem sumI_eq : ∀ ns : List Int, sumI ns = ns.sum
  | [] => rfl
  | x :: r => by rw [List.sum_cons, ← sumI_eq r]; rfl
def gSum : List D → Option D
  | [.list ds] => (match intsOf ds with
    | some ns => some (.int (sumI ns))
    | none => none)
  | _ => none
theorem rc_sum {K : PySem.W.Frag} : RCD (rSum K) gSum := by
  intro Z H hz vs ds d r e Q q
  unfold gSum at e
  split at e
  · split at e
    · rename_i ns hb
      cases e
      cases r with
      | cons h t =>
        cases t
        obtain ⟨a, us, rfl, ha, ra⟩ := h
        obtain ⟨e1, _⟩ := intsOf_ok ra hb
        exact ⟨a, ns, rfl, SqL.of (by rw [← e1]; exact ha), by rw [← sumI_eq]; exact q _ H (New.refl H) (.int _)⟩
    · cases e
  · cases e
def minI (x : Int) : List Int → Int
  | [] => x
  | y :: r => if y < x then minI y r else minI x r
theorem minI_mem : ∀ (r : List Int) (x : Int), minI x r ∈ x :: r
  | [], x => by simp [minI]
  | y :: r, x => by
    unfold minI
    split
    · have := minI_mem r y; simp at this ⊢; rcases this with h | h <;> simp [h]
    · have := minI_mem r x; simp at this ⊢; rcases this with h | h <;> simp [h]
theorem minI_le : ∀ (r : List Int) (x : Int), minI x r ≤ x ∧ ∀ y ∈ r, minI x r ≤ y
  | [], x => by simp [minI]
  | y :: r, x => by
    unfold minI
    split
    · rename_i h
      obtain ⟨a, b⟩ := minI_le r y
      refine ⟨by omega, fun z hz => ?_⟩
      rcases List.mem_cons.mp hz with e | e
      · subst e; exact a
      · exact b z e
    · rename_i h
      obtain ⟨a, b⟩ := minI_le r x
      refine ⟨a, fun z hz => ?_⟩
      rcases List.mem_cons.mp hz with e | e
      · subst e; omega
      · exact b z e
def rMin2 : List V → Hp → VK → Prop := fun xs H Q => ∃ i j, xs = [.int i, .int j] ∧ Q (.int (if j < i then j else i)) H
def rMinU (K : PySem.W.Frag) : List V → Hp → VK → Prop := fun xs H Q => rMin K xs H Q ∨ rMin2 xs H Q
theorem cr_minU {X : Cx} (hc : X.calm = true) : CallR X (.builtin "min") (rMinU X.K) := (cr_min hc).or (call_min2 hc)
def gMin : List D → Option D
  | [.list ds] => (match intsOf ds with
    | some (n :: r) => some (.int (minI n r))
    | _ => none)
  | [.int i, .int j] => some (.int (if j < i then j else i))
  | _ => none
theorem rc_min {K : PySem.W.Frag} : RCD (rMinU K) gMin := by
  intro Z H hz vs ds d r e Q q
  unfold gMin at e
  split at e
  · split at e
    · rename_i n l hb
      cases e
      cases r with
      | cons h t =>
        cases t
        obtain ⟨a, us, rfl, ha, ra⟩ := h
        obtain ⟨e1, _⟩ := intsOf_ok ra hb
        refine .inl ⟨a, n :: l, rfl, SqL.of (by rw [← e1]; exact ha), by simp, fun m hm hl => ?_⟩
        have e2 : m = minI n l := by
          obtain ⟨h1, h2⟩ := minI_le l n
          have h3 := hl _ (minI_mem l n)
          rcases List.mem_cons.mp hm with z | z
          · subst z; omega
          · have := h2 m z; omega
        rw [e2]
        exact q _ H (New.refl H) (.int _)
    · cases e
  · cases e
    cases r with
    | cons h t =>
      cases t with
      | cons h2 t2 =>
        cases t2
        cases h; cases h2
        exact .inr ⟨_, _, rfl, q _ H (New.refl H) (.int _)⟩
  · cases e
def rAbs : List V → Hp → VK → Prop := fun xs H Q => ∃ i, xs = [.int i] ∧ Q (.int (if i < 0 then -i else i)) H
theorem call_absU {X : Cx} : CallR X (.builtin "abs") rAbs := call_abs
def gAbs : List D → Option D
  | [.int i] => some (.int (if i < 0 then -i else i))
  | _ => none
theorem rc_abs : RCD rAbs gAbs := by
  intro Z H hz vs ds d r e Q q
  unfold gAbs at e
  split at e
  · cases e
    cases r with
    | cons h t => cases t; cases h; exact ⟨_, rfl, q _ H (New.refl H) (.int _)⟩
  · cases e
def mGet1 (a b : EM) : EM := fun s => match a s with
  | some (x, o1) => (match vw o1 x with
    | some (.dict _) => (match b (s.on o1) with
      | some (y, o2) => (match vw o2 x, vw o2 y with
        | some (.dict ps), some dk => (match toKey dk with
          | some k => some (.d ((getP ps k).getD .none), o2)
          | none => none)
        | _, _ => none)
      | none => none)
    | _ => none)
  | none => none
theorem getP_non {Z : Zs} {H : Hp} {kvs : List (Key × V)} {ps : List (D × D)} {k : Key} (r : RpK Z H kvs ps) (h : getP ps k = none) : valV kvs k = none := by
  have := (getP_ok (k := k) r).1
  rw [h] at this
  cases e : valV kvs k with
  | none => rfl
  | some v => rw [e] at this; cases this
theorem sn_get1 {ta tb : TE} {a b : EM} (ha : Sn ta a) (hb : Sn tb b) : Sn (tDGet1 ta tb) (mGet1 a b) := by
  intro Z M s σ H h w o' e Q q
  unfold mGet1 at e
  split at e
  · rename_i x o1 ea
    refine ha Z M s σ H h x o1 ea _ fun M1 v1 H1 e1 h1 r1 => ?_
    split at e
    · rename_i ps0 w0
      have t0 := vw_ok h1.r r1 w0
      obtain ⟨p, kvs0, rfl, hp0, _⟩ := t0
      refine ⟨p, rfl, .inl ⟨kvs0, hp0⟩, ?_⟩
      split at e
      · rename_i y o2 eb
        refine hb Z M1 (s.on o1) σ H1 h1 y o2 eb _ fun M2 v2 H2 e2 h2 r2 => ?_
        split at e
        · rename_i ps dk w1 w2
          split at e
          · rename_i k hk
            cases e
            have t1 := vw_ok h2.r (e2.rv r1) w1
            obtain ⟨p', kvs, ep, hp, ra⟩ := t1
            cases ep
            have hv := key_rt (vw_ok h2.r r2 w2) hk
            subst hv
            refine ⟨_, DGet.kR hp, ?_⟩
            cases eg : getP ps k with
            | none =>
              rw [getP_non ra eg]
              exact q M2 .non H2 (e1.trans e2) h2 (by rw [eg]; exact .non)
            | some d =>
              obtain ⟨v, g1, g2⟩ := (getP_ok ra).2 d eg
              rw [g1]
              exact q M2 v H2 (e1.trans e2) h2 (by rw [eg]; exact g2)
          · cases e
        · cases e
      · cases e
    · cases e
  · cases e
def mGet2 (a b c : EM) : EM := fun s => match a s with
  | some (x, o1) => (match vw o1 x with
    | some (.dict _) => (match b (s.on o1) with
      | some (y, o2) => (match c (s.on o2) with
        | some (.d z, o3) => (match vw o3 x, vw o3 y with
          | some (.dict ps), some dk => (match toKey dk with
            | some k => some (.d ((getP ps k).getD z), o3)
            | none => none)
          | _, _ => none)
        | _ => none)
      | none => none)
    | _ => none)
  | none => none
theorem sn_get2 {ta tb tc : TE} {a b c : EM} (ha : Sn ta a) (hb : Sn tb b) (hc : Sn tc c) : Sn (tDGet2 ta tb tc) (mGet2 a b c) := by
  intro Z M s σ H h w o' e Q q
  unfold mGet2 at e
  split at e
  · rename_i x o1 ea
    refine ha Z M s σ H h x o1 ea _ fun M1 v1 H1 e1 h1 r1 => ?_
    split at e
    · rename_i ps0 w0
      have t0 := vw_ok h1.r r1 w0
      obtain ⟨p, kvs0, rfl, hp0, _⟩ := t0
      refine ⟨p, rfl, .inl ⟨kvs0, hp0⟩, ?_⟩
      split at e
      · rename_i y o2 eb
        refine hb Z M1 (s.on o1) σ H1 h1 y o2 eb _ fun M2 v2 H2 e2 h2 r2 => ?_
        split at e
        · rename_i z o3 ec
          refine hc Z M2 (s.on o2) σ H2 h2 _ o3 ec _ fun M3 v3 H3 e3 h3 r3 => ?_
          split at e
          · rename_i ps dk w1 w2
            split at e
            · rename_i k hk
              cases e
              have t1 := vw_ok h3.r (e3.rv (e2.rv r1)) w1
              obtain ⟨p', kvs, ep, hp, ra⟩ := t1
              cases ep
              have hv := key_rt (vw_ok h3.r (e3.rv r2) w2) hk
              subst hv
              refine ⟨_, DGet.kR hp, ?_⟩
              cases eg : getP ps k with
              | none =>
                rw [getP_non ra eg]
                exact q M3 v3 H3 ((e1.trans e2).trans e3) h3 (by rw [eg]; exact r3)
              | some d =>
                obtain ⟨v, g1, g2⟩ := (getP_ok ra).2 d eg
                rw [g1]
                exact q M3 v H3 ((e1.trans e2).trans e3) h3 (by rw [eg]; exact g2)
            · cases e
          · cases e
        · cases e
      · cases e
    · cases e
  · cases e
theorem RpA.set {Z : Zs} {H : Hp} {v : V} {d : D} (hv : Rp Z H v d) : ∀ {us : List V} {xs : List D} (j : Nat), RpA Z H us xs → RpA Z H (us.set j v) (xs.set j d)
  | _, _, _, .nil => .nil
  | _, _, 0, .cons _ r => .cons hv r
  | _, _, j + 1, .cons h r => .cons h (RpA.set hv j r)
def mPutL (v a b : EM) : SM := fun s => match v s with
  | some (.d d, o1) => (match a (s.on o1) with
    | some (.m k, o2) => (match b (s.on o2) with
      | some (.d (.int i), o3) => (match o3[k]? with
        | some (.l ds) => (match ixN ds.length i with
          | some j => some (.nx (s.on (o3.set k (.l (ds.set j d)))))
          | none => none)
        | _ => none)
      | _ => none)
    | _ => none)
  | _ => none
theorem ss_putL {td ty tv : TE} {v a b : EM} (hv : Sn tv v) (ha : Sn td a) (hb : Sn ty b) : SnS (tAsg tv (L2.gSub td ty rSetL)) (mPutL v a b) := by
  intro Z M s σ H h out e E f
  unfold mPutL at e
  split at e
  · rename_i d o1 ev
    refine hv Z M s σ H h _ _ ev _ fun M1 v1 H1 ⟨e1, _⟩ h1 r1 => ?_
    split at e
    · rename_i k o2 ea
      refine ha Z M1 (s.on o1) σ H1 h1 _ _ ea _ fun M2 v2 H2 ⟨e2, _⟩ h2 r2 => ?_
      obtain ⟨p, hp, rfl⟩ := r2
      split at e
      · rename_i i o3 eb
        refine hb Z M2 (s.on o2) σ H2 h2 _ _ eb _ fun M3 v3 H3 ⟨e3, _⟩ h3 r3 => ?_
        split at e
        · rename_i ds hk
          split at e
          · rename_i j hj
            cases e
            have hp3 := e3.at hp
            obtain ⟨xs, hx, rx⟩ := h3.r.ob k p _ hp3 hk
            have r3' : Rp (zz Z M3) H3 v3 (.int i) := r3
            cases r3'
            obtain ⟨g1, g2⟩ := own_mut (ob := .lst (xs.set j v1)) (r := .l (ds.set j d)) h3 hp3 ⟨_, rfl, RpA.set ((e2.trans e3).mono_d r1) j rx⟩
            exact ⟨p, xs, i, j, rfl, rfl, hx, by rw [rx.length]; exact hj, f M3 σ _ (((e1.trans e2).trans e3).trans g2) g1⟩
          · cases e
        · cases e
      · cases e
    · cases e
  · cases e
def rWords : V → List V → Hp → VK → Prop := fun x xs H Q => ∃ a, x = .str a ∧ xs = [] ∧ a.length + 2 ≤ sizeLine ∧ rNewStrs (Txt.words a) H Q
def gWords (a : Str) : Option D := if a.length + 2 ≤ 100000 then some (.list ((Txt.words a).map .str)) else none
theorem rm_words : RM0 rWords gWords := by
  intro Z H hz z d e Q q
  unfold gWords at e
  split at e
  · rename_i h
    cases e
    refine ⟨z, rfl, rfl, small_line h, fun p hp => ?_⟩
    have n := New.upd (o := .lst ((Txt.words z).map V.str)) hp
    exact q _ _ n (.lst (fun y => hz p y hp) upd_same (rpA_strs _))
  · cases e
theorem pe_wordsR {X : Cx} {o : Expr} {to : TE} {apos pos : Pos} (ho : PE X o to) (hbase : attributeBase o "split" X.env (eval o X.env) = eval o X.env := by rfl) (hline : (apos.endLine == pos.line) = true := by rfl) :
    PE X (.Call (.Attribute o "split" apos) [] [] pos) (tM0 rWords to) := pe_words ho hbase hline
end
end AP

namespace AP
noncomputable section
open PySem PySem.Spec PyProof.Rows L2 RZ
variable [Tbls] [Gd]
def rCmpD (K : PySem.W.Frag) (f : D → D → Bool) : R2 := fun x y H Q => ∃ d e, Dp K H x d ∧ Dp K H y e ∧ PySem.W.alike d e = true ∧ d ≠ .none ∧ min d.depth e.depth ≤ 60 ∧ Q (.bl (f d e)) H
section
variable {X : Cx}
theorem op_ltD (hu : X.A.units + 64 < cLine) : OpR X (compareOp .Lt) (rCmpD X.K fun d e => PySem.W.dataLt d e) := by
  intro pins s σ H x y v u Q I rx ry h
  obtain ⟨d, e, hd, he, al, dn, dp, q⟩ := h
  obtain ⟨as, r1⟩ := Dp.reads I d x v hd rx
  obtain ⟨bs, r2⟩ := Dp.reads I e y u he ry
  exact PySem.W.lt_data r1 r2 al dn (by omega) ⟨.bl _, H, I, rfl, q⟩
theorem op_gtD (hu : X.A.units + 64 < cLine) : OpR X (compareOp .Gt) (rCmpD X.K fun d e => PySem.W.dataLt e d) := by
  intro pins s σ H x y v u Q I rx ry h
  obtain ⟨d, e, hd, he, al, dn, dp, q⟩ := h
  obtain ⟨as, r1⟩ := Dp.reads I d x v hd rx
  obtain ⟨bs, r2⟩ := Dp.reads I e y u he ry
  exact PySem.W.gt_data r1 r2 al dn (by omega) ⟨.bl _, H, I, rfl, q⟩
theorem op_leD (hu : X.A.units + 64 < cLine) : OpR X (compareOp .LtE) (rCmpD X.K fun d e => !PySem.W.dataLt e d) := by
  intro pins s σ H x y v u Q I rx ry h
  obtain ⟨d, e, hd, he, al, dn, dp, q⟩ := h
  obtain ⟨as, r1⟩ := Dp.reads I d x v hd rx
  obtain ⟨bs, r2⟩ := Dp.reads I e y u he ry
  exact PySem.W.le_data r1 r2 al dn (by omega) ⟨.bl _, H, I, rfl, q⟩
theorem op_geD (hu : X.A.units + 64 < cLine) : OpR X (compareOp .GtE) (rCmpD X.K fun d e => !PySem.W.dataLt d e) := by
  intro pins s σ H x y v u Q I rx ry h
  obtain ⟨d, e, hd, he, al, dn, dp, q⟩ := h
  obtain ⟨as, r1⟩ := Dp.reads I d x v hd rx
  obtain ⟨bs, r2⟩ := Dp.reads I e y u he ry
  exact PySem.W.ge_data r1 r2 al dn (by omega) ⟨.bl _, H, I, rfl, q⟩
end
def gCmpD (f : D → D → Bool) (a b : D) : Option D := if (noD a && (noD b && (PySem.W.alike a b && (!isN a && decide (min a.depth b.depth ≤ 60))))) = true then some (.bool (f a b)) else none
theorem isN_false {d : D} (h : isN d = false) : d ≠ .none := fun e => by subst e; cases h
theorem r2_cmpD {K : PySem.W.Frag} {f : D → D → Bool} : R2D (rCmpD K f) (gCmpD f) := by
  intro Z H hz v1 v2 d1 d2 d r1 r2 e Q q
  unfold gCmpD at e
  split at e
  · rename_i h
    cases e
    simp only [Bool.and_eq_true, Bool.not_eq_true', decide_eq_true_eq] at h
    exact ⟨d1, d2, r1.dp h.1, r2.dp h.2.1, h.2.2.1, isN_false h.2.2.2.1, h.2.2.2.2, q _ H (New.refl H) (.bl _)⟩
  · cases e
abbrev fLt : D → D → Bool := fun d e => PySem.W.dataLt d e
abbrev fGt : D → D → Bool := fun d e => PySem.W.dataLt e d
abbrev fLe : D → D → Bool := fun d e => !PySem.W.dataLt e d
abbrev fGe : D → D → Bool := fun d e => !PySem.W.dataLt d e
def rLtW (K : PySem.W.Frag) : R2 := fun x y H Q => rLtU x y H Q ∨ rCmpD K fLt x y H Q
def rGtW (K : PySem.W.Frag) : R2 := fun x y H Q => rGtU x y H Q ∨ rCmpD K fGt x y H Q
def rLeW (K : PySem.W.Frag) : R2 := fun x y H Q => rLeU x y H Q ∨ rCmpD K fLe x y H Q
def rGeW (K : PySem.W.Frag) : R2 := fun x y H Q => rGeU x y H Q ∨ rCmpD K fGe x y H Q
def gLtW (a b : D) : Option D := oel (gLtU a b) (gCmpD fLt a b)
def gGtW (a b : D) : Option D := oel (gGtU a b) (gCmpD fGt a b)
def gLeW (a b : D) : Option D := oel (gLeU a b) (gCmpD fLe a b)
def gGeW (a b : D) : Option D := oel (gGeU a b) (gCmpD fGe a b)
theorem op_ltW {X : Cx} (hu : X.A.units + 64 < cLine) : OpR X (compareOp .Lt) (rLtW X.K) := op_ltU.or (op_ltD hu)
theorem op_gtW {X : Cx} (hu : X.A.units + 64 < cLine) : OpR X (compareOp .Gt) (rGtW X.K) := op_gtU.or (op_gtD hu)
theorem op_leW {X : Cx} (hu : X.A.units + 64 < cLine) : OpR X (compareOp .LtE) (rLeW X.K) := op_leU.or (op_leD hu)
theorem op_geW {X : Cx} (hu : X.A.units + 64 < cLine) : OpR X (compareOp .GtE) (rGeW X.K) := op_geU.or (op_geD hu)
theorem r2_ltW {K : PySem.W.Frag} : R2D (rLtW K) gLtW := r2_ltU.or r2_cmpD
theorem r2_gtW {K : PySem.W.Frag} : R2D (rGtW K) gGtW := r2_gtU.or r2_cmpD
theorem r2_leW {K : PySem.W.Frag} : R2D (rLeW K) gLeW := r2_leU.or r2_cmpD
theorem r2_geW {K : PySem.W.Frag} : R2D (rGeW K) gGeW := r2_geU.or r2_cmpD
theorem toKey_kV {Z : Zs} {H : Hp} {v : V} {d : D} {k : Key} (r : Rp Z H v d) (h : toKey d = some k) : v = kV k := key_rt (Rp.rt r) h
theorem set_last {α : Type} : ∀ {l : List α} {n : Nat} {x : α}, l.length = n + 1 → l.set n x = l.take n ++ [x]
  | [], _, _, h => by simp at h
  | a :: r, 0, x, h => by
    have : r = [] := List.eq_nil_of_length_eq_zero (by simpa using h)
    subst this; rfl
  | a :: r, n + 1, x, h => by
    have := set_last (l := r) (n := n) (x := x) (by simpa using h)
    simp [this]
def mDisp1 (a b : EM) : NM := fun s => match a (s.on (s.o ++ [.k []])) with
  | some (.d dk, o1) => (match b (s.on o1) with
    | some (.d d, o2) => (match toKey dk, o2[s.o.length]? with
      | some k, some (.k []) => some (.k [(k, d)], o2.take s.o.length)
      | _, _ => none)
    | _ => none)
  | _ => none
theorem sn_disp1 {tk tv : TE} {a b : EM} (ha : Sn tk a) (hb : Sn tv b) : SnN (tDisp [(tk, tv)]) (mDisp1 a b) := by
  intro Z M s σ H h w o' e Q q
  unfold mDisp1 at e
  split at e
  · rename_i dk o1 ea
    split at e
    · rename_i d o2 eb
      split at e
      · rename_i k hk ho
        cases e
        intro p hp
        obtain ⟨g0, x0⟩ := own_new (ob := .dK []) (r := .k []) h hp ⟨[], rfl, .nil⟩
        refine ha Z (M ++ [p]) (s.on (s.o ++ [.k []])) σ _ (show Rel Z (M ++ [p]) (s.on (s.o ++ [.k []])) σ (upd H p (.dK [])) from g0) _ o1 ea _ fun M1 v1 H1 e1 h1 r1 => ?_
        refine hb Z M1 (s.on o1) σ H1 h1 _ o2 eb _ fun M2 v2 H2 e2 h2 r2 => ?_
        have hM2 : M2 = M ++ [p] := e2.same.trans e1.same
        subst hM2
        have pM : (M ++ [p])[s.o.length]? = some p := by rw [h.r.len, List.getElem?_append_right (Nat.le_refl _)]; simp
        obtain ⟨kvs, k2, k3⟩ := h2.r.ob _ p _ pM ho
        have k4 : kvs = [] := by cases k3; rfl
        subst k4
        have ek := toKey_kV (e2.rv (sv := .d dk) r1) hk
        subst ek
        obtain ⟨g1, g2⟩ := own_mut (ob := .dK (mergeK [] [(k, v2)])) (r := .k [(k, d)]) h2 pM ⟨_, rfl, .cons (k := k) r2 .nil⟩
        refine ⟨k2, [(k, v2)], rfl, by simp, ?_⟩
        have hl : (s.on o2).o.length = s.o.length + 1 := by
          have h9 : o2.length = M.length + 1 := by
            have z := h2.r.len
            rw [List.length_append] at z
            exact z
          show o2.length = _
          rw [h9, h.r.len]
        have g1' : Rel Z (M ++ [p]) { s with o := o2.take s.o.length ++ [.k [(k, d)]] } σ (upd H2 p (.dK (mergeK [] [(k, v2)]))) := by
          have z : Rel Z (M ++ [p]) { s with o := o2.set s.o.length (.k [(k, d)]) } σ (upd H2 p (.dK (mergeK [] [(k, v2)]))) := g1
          have e3 : o2.set s.o.length (.k [(k, d)]) = o2.take s.o.length ++ [.k [(k, d)]] := set_last hl
          rw [e3] at z
          exact z
        exact q M p _ rfl ((x0.trans (e1.trans e2).toExt).trans g2) g1'
      · cases e
    · cases e
  · cases e
theorem pe_disp1 {X : Cx} {pos : Pos} {k v : Expr} {tk tv : TE} (hk : PE X k tk) (hv : PE X v tv) : PE X (.Dict [some k] [v] pos) (tDisp [(tk, tv)]) := pe_disp (pps_cons hk hv pps_nil) rfl rfl (by simp) (by simp)
def getN (ps : List (Key × Nat)) (k : Key) : Option Nat := match ps with
  | [] => none
  | (a, j) :: r => if a = k then some j else getN r k
theorem getN_some {M : List Addr} {k : Key} {j : Nat} : ∀ {kvs : List (Key × V)} {ps : List (Key × Nat)}, RnK M kvs ps → getN ps k = some j → ∃ a, M[j]? = some a ∧ valV kvs k = some (.ref a)
  | _, _, .nil, e => by cases e
  | _, _, .cons (a := a) (k := j') (x := x) hm t, e => by
    simp only [getN] at e
    split at e
    · rename_i hx
      cases e
      subst hx
      exact ⟨a, hm, valV_pos rfl⟩
    · rename_i hx
      obtain ⟨b, h1, h2⟩ := getN_some t e
      exact ⟨b, h1, by rw [valV_neg hx]; exact h2⟩
theorem getN_none {M : List Addr} {k : Key} : ∀ {kvs : List (Key × V)} {ps : List (Key × Nat)}, RnK M kvs ps → getN ps k = none → valV kvs k = none
  | _, _, .nil, e => rfl
  | _, _, .cons (x := x) hm t, e => by
    simp only [getN] at e
    split at e
    · cases e
    · rename_i hx
      rw [valV_neg hx]
      exact getN_none t e
theorem putK_none {kvs : List (Key × V)} {k : Key} {v : V} (h : valV kvs k = none) : putK kvs k v = kvs ++ [(k, v)] := by
  unfold putK
  have e := valV_any k kvs
  rw [h] at e
  rw [if_neg]
  rw [e]; simp
theorem RnK.snoc {M : List Addr} {k : Key} {j : Nat} {a : Addr} (hj : M[j]? = some a) : ∀ {kvs : List (Key × V)} {ps : List (Key × Nat)}, RnK M kvs ps → RnK M (kvs ++ [(k, .ref a)]) (ps ++ [(k, j)])
  | _, _, .nil => .cons hj .nil
  | _, _, .cons h t => .cons h (RnK.snoc hj t)
theorem RnK.length {M : List Addr} : ∀ {kvs : List (Key × V)} {ps : List (Key × Nat)}, RnK M kvs ps → kvs.length = ps.length
  | _, _, .nil => rfl
  | _, _, .cons _ t => by simp [RnK.length t]
def mAppAt (j : Nat) (c : EM) (s : S) (o : List MO) : Option Out := match o[j]? with
  | some (.l _) => (match c (s.on o) with
    | some (.d d, o3) => (match o3[j]? with
      | some (.l ds) => if ds.length < 100000 then some (.nx (s.on (o3.set j (.l (ds ++ [d]))))) else none
      | _ => none)
    | _ => none)
  | _ => none
def mSdApp (a b c : EM) : SM := fun s => match a s with
  | some (.m k, o1) => (match o1[k]? with
    | some (.g _) => (match b (s.on o1) with
      | some (.d dk, o2) => (match toKey dk, o2[k]? with
        | some key, some (.g ps) => if ps.length < 100000 then (match getN ps key with
          | some j => mAppAt j c s o2
          | none => mAppAt o2.length c s ((o2 ++ [MO.l []]).set k (.g (ps ++ [(key, o2.length)])))) else none
        | _, _ => none)
      | _ => none)
    | _ => none)
  | _ => none
theorem app_at {K : PySem.W.Frag} {c : EM} {tc : TE} (hc : Sn tc c) {Z : Zs} {M0 M : List Addr} {s : S} {σ : L2.St} {H0 H : Hp} {j : Nat} {p : Addr} {o : List MO} {out : Out} {E : Ends} (h : Rel Z M (s.on o) σ H) (x : Ext M0 H0 M H) (hp : M[j]? = some p) (e : mAppAt j c s o = some out) (f : Fin Z M0 H0 E out) :
    tyV K "list" (.ref p) H ∧ tCons tc tNil σ H fun xs H2 => rAppend (.ref p) xs H2 fun _ H3 => E.nx σ H3 := by
  unfold mAppAt at e
  split at e
  · rename_i ds1 hk1
    obtain ⟨xs1, hx1, _⟩ := h.r.ob j p _ hp hk1
    split at e
    · rename_i d o3 ec
      split at e
      · rename_i ds hk
        split at e
        · rename_i hl
          cases e
          refine ⟨.inl ⟨rfl, _, SqL.of hx1⟩, ?_⟩
          refine hc Z M (s.on o) σ H h _ _ ec _ fun M2 v2 H2 ⟨e2, _⟩ h2 r2 => ?_
          have hp2 := e2.at hp
          obtain ⟨xs, hx, rx⟩ := h2.r.ob j p _ hp2 hk
          refine ⟨p, xs, v2, rfl, rfl, hx, Nat.lt_of_lt_of_le (by rw [rx.length]; exact hl) (small_line (Nat.le_refl _)), ?_⟩
          obtain ⟨g1, g2⟩ := own_mut (ob := .lst (xs ++ [v2])) (r := .l (ds ++ [d])) h2 hp2 ⟨_, rfl, rpA_snoc rx r2⟩
          exact f M2 σ _ ((x.trans e2).trans g2) g1
        · cases e
      · cases e
    · cases e
  · cases e
theorem ss_sdApp {K : PySem.W.Frag} {td ty tc : TE} {a b c : EM} (ha : Sn td a) (hb : Sn ty b) (hc : Sn tc c) : SnS (tDrop (tBM K "list" rAppend (tDSetd td ty (tLst tNil)) (tCons tc tNil))) (mSdApp a b c) := by
  intro Z M s σ H h out e E f
  unfold mSdApp at e
  split at e
  · rename_i k o1 ea
    refine ha Z M s σ H h _ _ ea _ fun M1 v1 H1 ⟨e1, _⟩ h1 r1 => ?_
    obtain ⟨p, hp, rfl⟩ := r1
    split at e
    · rename_i ps1 hk1
      obtain ⟨kv1, hx1, _⟩ := h1.r.ob k p _ hp hk1
      refine ⟨p, rfl, .inl ⟨kv1, .inl hx1⟩, ?_⟩
      split at e
      · rename_i dk o2 eb
        refine hb Z M1 (s.on o1) σ H1 h1 _ _ eb _ fun M2 v2 H2 ⟨e2, m2⟩ h2 r2 => ?_
        split at e
        · rename_i key ps hkey hk
          split at e
          · rename_i hl
            have hp2 := e2.at hp
            have ek := toKey_kV r2 hkey
            subst ek
            refine ⟨small_line (by simp), fun q hq => ?_⟩
            obtain ⟨kvs, hx, rx⟩ := h2.r.ob k p _ hp2 hk
            have npq : p ≠ q := fun z => by rw [z, hq] at hx; cases hx
            refine ⟨kvs, key, by rw [upd_ne npq]; exact hx, rfl, Nat.lt_of_lt_of_le (by rw [rx.length]; exact hl) (small_line (Nat.le_refl _)), fun v hv => ?_, fun hv => ?_⟩
            · cases hg : getN ps key with
              | none => rw [getN_none rx hg] at hv; cases hv
              | some j =>
                rw [hg] at e
                obtain ⟨b', hb1, hb2⟩ := getN_some rx hg
                rw [hb2] at hv
                cases hv
                have n := New.upd (o := HO.lst []) hq
                exact app_at hc (h2.new n) ((e1.trans e2).trans (Ext.new n)) hb1 e f
            · cases hg : getN ps key with
              | some j =>
                obtain ⟨b', hb1, hb2⟩ := getN_some rx hg
                rw [hb2] at hv; cases hv
              | none =>
                rw [hg] at e
                obtain ⟨g1, g2⟩ := own_new (ob := .lst []) (r := MO.l []) h2 hq ⟨[], rfl, .nil⟩
                have hp3 := g2.at hp2
                have hl2 : o2.length = M2.length := h2.r.len
                have hq3 : (M2 ++ [q])[o2.length]? = some q := by rw [hl2, List.getElem?_append_right (Nat.le_refl _)]; simp
                obtain ⟨g3, g4⟩ := own_mut (ob := .dK (putK kvs key (.ref q))) (r := .g (ps ++ [(key, o2.length)])) g1 hp3 ⟨_, rfl, by rw [putK_none hv]; exact (rx.pre (e := [q]) rfl).snoc hq3⟩
                exact app_at (s := s) (o := (o2 ++ [MO.l []]).set k (.g (ps ++ [(key, o2.length)]))) hc g3 (((e1.trans e2).trans g2).trans g4) hq3 e f
          · cases e
        · cases e
      · cases e
    · cases e
  · cases e
def mDict0g : NM := fun s => some (.g [], s.o)
theorem sn_dict0g : SnN tDNewK mDict0g := by
  intro Z M s σ H h w o' e Q q
  cases e
  intro p hp
  obtain ⟨g1, g2⟩ := own_new (ob := .dK []) (r := .g []) h hp ⟨[], rfl, .nil⟩
  exact q M p _ rfl g2 g1
def rSIdx : V → List V → Hp → VK → Prop := fun x xs H Q => ∃ a b i rest, x = .str a ∧ xs = [.str b] ∧ Builtin.Str.occurrences a b 0 a.length 1 = i :: rest ∧ Q (.int (i : Nat)) H
def gSIdx : D → D → Option D
  | .str a, .str b => (match Builtin.Str.occurrences a b 0 a.length 1 with
    | i :: _ => some (.int (i : Nat))
    | [] => none)
  | _, _ => none
theorem rm_sidx : RMD rSIdx gSIdx := by
  intro Z H hz v1 v2 d1 d2 d r1 r2 e Q q
  unfold gSIdx at e
  split at e
  · split at e
    · rename_i i rest hi
      cases e
      cases r1; cases r2
      exact ⟨_, _, i, rest, rfl, rfl, hi, q _ H (New.refl H) (.int _)⟩
    · cases e
  · cases e
theorem pe_sidx {X : Cx} {o e : Expr} {to te : TE} {apos pos : Pos} (ho : PE X o to) (he : PE X e te) (hs : starEach [e] X.env = [(false, eval e X.env)] := by rfl) (hbase : attributeBase o "index" X.env (eval o X.env) = eval o X.env := by rfl) (hline : (apos.endLine == pos.line) = true := by rfl) :
    PE X (.Call (.Attribute o "index" apos) [e] [] pos) (tM1 rSIdx to te) := pe_m1 F.slot_str_index F.type_str_index mt_sindex ho he hs hbase hline
end
end AP

namespace AP
noncomputable section
open PySem PySem.Spec PyProof.Rows L2 RZ
variable [Tbls] [Gd]
inductive AO where
  | ok (vs : List SV) (o : List MO) | er (c : Str) (fs : List (Str × D)) (s : S)
inductive BO where
  | ok (b : Bool) (o : List MO) | er (c : Str) (fs : List (Str × D)) (s : S)
section
variable {prog : Program} {w : World} {A : Around} {E : Value → Shared → Prop} {s : Shared}
theorem min_list_ix {l : Addr} {vs : Array Value} {x : PyData} {xs : List PyData} {as : List Addr} {Q : Value → Shared → Prop} (hh : A.handled = none) (hl : s.heap.IsList l vs) (hr : ReadsAll s.heap vs.toList (x :: xs) as) (ha : PySem.W.AlikeAll (x :: xs)) (hu : A.units + 1 + PyData.depthAll (x :: xs) < cLine)
    (h : ∀ (i : Nat) v h' tk, vs[i]? = some v → (x :: xs).getD i .none = PySem.W.minD x xs → (∀ b o, s.heap.get? b = some o → h'.get? b = some o) → Q v { s with heap := h', toks := tk }) :
    wpAny (model prog w) A (call (.builtin "min") [.ref l]) Q E s := by
  have hn : vs.size = xs.length + 1 := PySem.W.readsAll_len hr
  refine call_min_walkH (PySem.W.iter_listW (A := A.in1) hh hl fun s₂ e W st hfp hw hk => ?_)
  refine ⟨_, _, _, _, _, _, _, s.heap, _, rfl, W, st, hfp, by omega, hw, hk, PySem.W.cmpIn_lt (A := A.in1) hr ha (by show A.units + 1 + _ < _; exact hu), fun v s' hP m => ?_⟩
  obtain ⟨h', tk, rfl, hk'⟩ := PySem.W.moved_old e rfl m
  have e1 : vs.size - 1 = xs.length := by omega
  have e2 := (PySem.W.argBest_fold PySem.W.dataLt PyData.none x xs xs.length (Nat.le_refl _)).2
  rw [List.take_length] at e2
  rw [e1] at hP
  exact h _ v h' tk hP (by unfold PySem.W.minD; rw [← e2]) hk'
end
def rMinD (K : PySem.W.Frag) : List V → Hp → VK → Prop := fun vs H Q => ∃ (a : Addr) (us : List V) (x : D) (xs : List D), vs = [.ref a] ∧ SqL K H a us ∧ DpAll K H us (x :: xs) ∧ PySem.W.AlikeAll (x :: xs) ∧ PyData.depthAll (x :: xs) ≤ 60 ∧
  ∀ i v, us[i]? = some v → (x :: xs).getD i .none = PySem.W.minD x xs → Q v H
section
variable {X : Cx}
theorem vals_at : ∀ {us : List V} {ws : List Value}, Vals us ws → ∀ {i : Nat} {w : Value}, ws[i]? = some w → ∃ v, us[i]? = some v ∧ RelV v w
  | _, _, .nil, _, _, h => by simp at h
  | _, _, .cons r t, 0, _, h => by simp at h; subst h; exact ⟨_, rfl, r⟩
  | _, _, .cons r t, i + 1, _, h => by
    obtain ⟨v, a, b⟩ := vals_at t (i := i) (by simpa using h)
    exact ⟨v, by simpa using a, b⟩
theorem cr_minD (hc : X.calm = true) (hu : X.A.units + 64 < cLine) : CallR X (.builtin "min") (rMinD X.K) := by
  intro pins s σ H vs us Q I r h
  obtain ⟨a, zs, x, xs, rfl, hs, hd, al, dp, q⟩ := h
  obtain ⟨its, rv, hl, _⟩ := I.list hs
  rw [Vals.ref1 r]
  obtain ⟨as, hr⟩ := Dp.readsAll I _ _ _ hd rv
  refine min_list_ix (I.ok.hd hc) hl.isList (by simpa using hr) al (by omega) fun i v h' tk hv hm hk => ?_
  obtain ⟨u, h1, h2⟩ := vals_at rv (i := i) (w := v) (by simpa using hv)
  exact ⟨u, H, I.kept hk, h2, q i u h1 hm⟩
def rMinW (K : PySem.W.Frag) : List V → Hp → VK → Prop := fun xs H Q => rMinU K xs H Q ∨ rMinD K xs H Q
theorem cr_minW (hc : X.calm = true) (hu : X.A.units + 64 < cLine) : CallR X (.builtin "min") (rMinW X.K) := (cr_minU hc).or (cr_minD hc hu)
end
def alikeB (ds : List D) : Bool := ds.all fun x => !isN x && ds.all fun y => PySem.W.alike x y
theorem alikeB_ok {ds : List D} (h : alikeB ds = true) : PySem.W.AlikeAll ds := by
  unfold alikeB at h
  rw [List.all_eq_true] at h
  refine ⟨fun x hx y hy => ?_, fun x hx => ?_⟩
  · have := h x hx
    rw [Bool.and_eq_true, List.all_eq_true] at this
    exact this.2 y hy
  · have := h x hx
    rw [Bool.and_eq_true, Bool.not_eq_true'] at this
    exact isN_false this.1
def gMinD : List D → Option D
  | [.list (x :: xs)] => if (noDs (x :: xs) && (alikeB (x :: xs) && decide (PyData.depthAll (x :: xs) ≤ 60))) = true then some (PySem.W.minD x xs) else none
  | _ => none
theorem rpA_at {Z : Zs} {H : Hp} {us : List V} {ds : List D} (r : RpA Z H us ds) {i : Nat} {v : V} (h : us[i]? = some v) : Rp Z H v (ds.getD i .none) := by
  obtain ⟨d, h1, h2⟩ := r.getV h
  rw [List.getD_eq_getElem?_getD, h1]
  exact h2
theorem rc_minD {K : PySem.W.Frag} : RCD (rMinD K) gMinD := by
  intro Z H hz vs ds d r e Q q
  unfold gMinD at e
  split at e
  · split at e
    · rename_i x xs hc
      cases e
      simp only [Bool.and_eq_true, decide_eq_true_eq] at hc
      cases r with
      | cons h t =>
        cases t
        obtain ⟨a, us, rfl, ha, ra⟩ := h
        refine ⟨a, us, x, xs, rfl, SqL.of ha, ra.dp hc.1, alikeB_ok hc.2.1, hc.2.2, fun i v hv hm => ?_⟩
        have z := rpA_at ra hv
        rw [hm] at z
        exact q v H (New.refl H) z
    · cases e
  · cases e
def gMinW (ds : List D) : Option D := oel (gMin ds) (gMinD ds)
theorem rc_minW {K : PySem.W.Frag} : RCD (rMinW K) gMinW := rc_min.or rc_minD
theorem RvA.ev {Z : Zs} {M M' : List Addr} {H H' : Hp} (e : Ex2 M H M' H') {vs : List V} {xs : List SV} (h : RvA Z M H vs xs) : RvA Z M' H' vs xs := RvA.ext e.toExt h
end
end AP

namespace AP
noncomputable section
open PySem PySem.Spec PyProof.Rows L2 RZ
variable [Tbls] [Gd]
abbrev TC := Addr → Value → Option Addr → TS
abbrev Clause := Str → List (Str × D) → Option D
structure ClauseOk (K : PySem.W.Frag) (n : Nat) (th : TC) (he : Clause) : Prop where
  exm : ∀ c fs r, he c fs = some r → PySem.W.exmOne K (.ref (He.ga K c)) (.ref (He.ga K "PieceError")) = some true
  run : ∀ {Z : Zs} {H : Hp} {cls : Value} {d : Option Addr} {a : Addr} {c : Str} {fs : List (Str × D)} {r : D} {σ : L2.St} {E : Ends}, RX K Z H cls d c fs → (∀ a, Z a → Has H a) → σ.length = n → σ[1]? = some (some (.ref a)) → he c fs = some r →
    (∀ v H', New H H' → Rp Z H' v r → E.rt v H') → th a cls d E σ H
def tT3 (K : PySem.W.Frag) (a : Addr) (cls : Value) (d : Option Addr) (sg C : Str) : TE :=
  tTupF (tCons (tC (.str sg)) (tCons (tXf a cls d (He.ga K C) "word" (tVar 1)) (tCons (tXf a cls d (He.ga K C) "at" (tVar 1)) tNil)))
def tO3 : TE := tTupF (tCons (tC (.str (Str.ofString "odd"))) tNil)
def tHeard3 (K : PySem.W.Frag) : TC := fun a cls d =>
  tSeq (tAsg (tLst (tCons (tIsE K cls d a (cV K "InvalidPaper")) (tCons (tIsE K cls d a (cV K "NotUsable")) tNil))) (gName 2))
  (tSeq (tAsg (tLst (tCons (tIsE K cls d a (cV K "PaperError")) (tCons (tIsE K cls d a (cV K "NetError")) (tCons (tIsE K cls d a (cV K "SpreadError")) tNil)))) (gName 3))
  (tSeq (tDrop (tBM K "list" rAppend (tVar 3) (tCons (tIsE K cls d a (cV K "TextError")) tNil)))
  (tSeq (tIfS (tOr (tNot (tTr K (tIsE K cls d a (.ty "ValueError")))) (tOr (tTest (tOp (rNeU K) (tBM K "list" (rCntB K) (tVar 2) (tCons (tC (.bl true)) tNil)) (tC (.int 1)))) (tTest (tOp (rNeU K) (tBM K "list" (rCntB K) (tVar 3) (tCons (tC (.bl true)) tNil)) (tC (.int 1))))))
    (tRet tO3) tNext)
  (tSeq (tIfS (tTr K (tOp (rIxA K) (tVar 2) (tC (.int 0))))
    (tRet (tIf (tTr K (tOp (rIxA K) (tVar 3) (tC (.int 0)))) (tT3 K a cls d (Str.ofString "paper") "InvalidPaper") tO3)) tNext)
  (tRet (tIf (tTr K (tOp (rIxA K) (tVar 3) (tC (.int 1)))) (tT3 K a cls d (Str.ofString "use") "NotUsable") tO3))))))
structure Kits3 (K : PySem.W.Frag) (c : Str) (b : Bool) : Prop where
  ex : ExI K (He.ga K c)
  k1 : PySem.W.kitOne K (.ref (He.ga K c)) (.ref (He.ga K "InvalidPaper")) = some b
  k2 : PySem.W.kitOne K (.ref (He.ga K c)) (.ref (He.ga K "NotUsable")) = some (!b)
  s1 : PySem.W.kitOne K (.ref (He.ga K c)) (.ref (He.ga K "PaperError")) = some b
  s2 : PySem.W.kitOne K (.ref (He.ga K c)) (.ref (He.ga K "NetError")) = some (!b)
  s3 : PySem.W.kitOne K (.ref (He.ga K c)) (.ref (He.ga K "SpreadError")) = some false
  s4 : PySem.W.kitOne K (.ref (He.ga K c)) (.ref (He.ga K "TextError")) = some false
  ve : PySem.W.kitOne K (.ref (He.ga K c)) (.type "ValueError") = some true
  exm : PySem.W.exmOne K (.ref (He.ga K c)) (.ref (He.ga K "PieceError")) = some true
def he3 : Clause := fun c fs => if c = Str.ofString "InvalidPaper" then (match fs.lookup (Str.ofString "word"), fs.lookup (Str.ofString "at") with
    | some x, some y => some (.tuple [.str (Str.ofString "paper"), x, y])
    | _, _ => none)
  else if c = Str.ofString "NotUsable" then (match fs.lookup (Str.ofString "word"), fs.lookup (Str.ofString "at") with
    | some x, some y => some (.tuple [.str (Str.ofString "use"), x, y])
    | _, _ => none)
  else none
theorem heard3 {K : PySem.W.Frag} {Z : Zs} {H : Hp} {cls : Value} {d : Option Addr} {a : Addr} {c : Str} {fs : List (Str × D)} {b : Bool} {x1 x2 : D} {σ : L2.St} {E : Ends} (x : RX K Z H cls d c fs) (hz : ∀ a, Z a → Has H a) (kt : Kits3 K c b)
    (own : c = cond b "InvalidPaper" "NotUsable") (hl : σ.length = 4) (hs : σ[1]? = some (some (.ref a))) (l1 : fs.lookup (Str.ofString "word") = some x1) (l2 : fs.lookup (Str.ofString "at") = some x2)
    (q : ∀ v H', New H H' → Rp Z H' v (.tuple [.str (cond b (Str.ofString "paper") (Str.ofString "use")), x1, x2]) → E.rt v H') : tHeard3 K a cls d E σ H := by
  unfold tHeard3
  show tIsE K cls d a (cV K "InvalidPaper") σ H _
  refine isE_run x kt.ex hs cV_rel kt.k1 ?_
  show tIsE K cls d a (cV K "NotUsable") σ H _
  refine isE_run x kt.ex hs cV_rel kt.k2 ?_
  refine ⟨small_line (by show 2 ≤ 100000; decide), fun p1 hp1 => ?_⟩
  have n1 : New H (upd H p1 (.lst [V.bl b, V.bl (!b)])) := New.upd hp1
  have z1 : ¬ Z p1 := fun z => (hz p1 z).ne hp1
  have x1' := x.new n1
  have hs1 : (σ.set 2 (some (V.ref p1)))[1]? = some (some (.ref a)) := by rw [List.getElem?_set_ne (by decide)]; exact hs
  have h21 : (σ.set 2 (some (V.ref p1)))[2]? = some (some (.ref p1)) := List.getElem?_set_self (by omega)
  have at1 : (upd H p1 (.lst [V.bl b, V.bl (!b)])) p1 = some (.lst [V.bl b, V.bl (!b)]) := upd_same
  have hl1 : (σ.set 2 (some (V.ref p1))).length = 4 := by rw [List.length_set]; exact hl
  show tSeq (tAsg (tLst (tCons (tIsE K cls d a (cV K "PaperError")) (tCons (tIsE K cls d a (cV K "NetError")) (tCons (tIsE K cls d a (cV K "SpreadError")) tNil)))) (gName 3)) _ E (σ.set 2 (some (V.ref p1))) (upd H p1 (.lst [V.bl b, V.bl (!b)]))
  generalize (σ.set 2 (some (V.ref p1))) = τ at hs1 h21 hl1
  generalize hH1 : (upd H p1 (.lst [V.bl b, V.bl (!b)])) = H1 at n1 x1' at1
  show tIsE K cls d a (cV K "PaperError") τ H1 _
  refine isE_run x1' kt.ex hs1 cV_rel kt.s1 ?_
  show tIsE K cls d a (cV K "NetError") τ H1 _
  refine isE_run x1' kt.ex hs1 cV_rel kt.s2 ?_
  show tIsE K cls d a (cV K "SpreadError") τ H1 _
  refine isE_run x1' kt.ex hs1 cV_rel kt.s3 ?_
  refine ⟨small_line (by show 3 ≤ 100000; decide), fun p2 hp2 => ?_⟩
  have n2 : New H1 (upd H1 p2 (.lst [V.bl b, V.bl (!b), V.bl false])) := New.upd hp2
  have ne : p1 ≠ p2 := fun e => by subst e; rw [at1] at hp2; cases hp2
  have z2 : ¬ Z p2 := fun z => (n1.dom p2 (hz p2 z)).ne hp2
  have hs2 : (τ.set 3 (some (V.ref p2)))[1]? = some (some (.ref a)) := by rw [List.getElem?_set_ne (by decide)]; exact hs1
  have h22 : (τ.set 3 (some (V.ref p2)))[2]? = some (some (.ref p1)) := by rw [List.getElem?_set_ne (by decide)]; exact h21
  have h32 : (τ.set 3 (some (V.ref p2)))[3]? = some (some (.ref p2)) := List.getElem?_set_self (by omega)
  have x2' := x1'.new n2
  -- the append
  show tSeq (tDrop (tBM K "list" rAppend (tVar 3) (tCons (tIsE K cls d a (cV K "TextError")) tNil))) _ E (τ.set 3 (some (V.ref p2))) (upd H1 p2 (.lst [V.bl b, V.bl (!b), V.bl false]))
  generalize (τ.set 3 (some (V.ref p2))) = υ at hs2 h22 h32
  refine ⟨.ref p2, h32, .inl ⟨rfl, _, SqL.of upd_same⟩, ?_⟩
  refine isE_run x2' kt.ex hs2 cV_rel kt.s4 ?_
  refine ⟨p2, [V.bl b, V.bl (!b), V.bl false], V.bl false, rfl, rfl, upd_same, Nat.lt_of_lt_of_le (by show 3 < 100000; decide) (small_line (Nat.le_refl _)), ?_⟩
  have n23 : New H1 (upd (upd H1 p2 (.lst [V.bl b, V.bl (!b), V.bl false])) p2 (.lst ([V.bl b, V.bl (!b), V.bl false] ++ [V.bl false]))) := by
    have e : upd (upd H1 p2 (.lst [V.bl b, V.bl (!b), V.bl false])) p2 (.lst ([V.bl b, V.bl (!b), V.bl false] ++ [V.bl false])) = upd H1 p2 (.lst ([V.bl b, V.bl (!b), V.bl false] ++ [V.bl false])) := by
      funext y
      by_cases hy : y = p2
      · subst hy; rw [upd_same, upd_same]
      · rw [upd_ne hy, upd_ne hy, upd_ne hy]
    rw [e]
    exact New.upd hp2
  have at2 : (upd (upd H1 p2 (.lst [V.bl b, V.bl (!b), V.bl false])) p2 (.lst ([V.bl b, V.bl (!b), V.bl false] ++ [V.bl false]))) p2 = some (.lst [V.bl b, V.bl (!b), V.bl false, V.bl false]) := upd_same
  show tSeq _ _ E υ (upd (upd H1 p2 (.lst [V.bl b, V.bl (!b), V.bl false])) p2 (.lst ([V.bl b, V.bl (!b), V.bl false] ++ [V.bl false])))
  generalize (upd (upd H1 p2 (.lst [V.bl b, V.bl (!b), V.bl false])) p2 (.lst ([V.bl b, V.bl (!b), V.bl false] ++ [V.bl false]))) = H2 at n23 at2
  have x3 := x1'.new n23
  have at1' : H2 p1 = some (.lst [V.bl b, V.bl (!b)]) := n23.at_ _ _ at1 nt_lst
  have n12 := n1.trans n23
  have hz2 : ∀ a, Z a → H2 a ≠ none := fun a z => (n12.dom a (hz a z)).ne
  show tIsE K cls d a (.ty "ValueError") υ H2 _
  refine isE_run x3 kt.ex hs2 ty_rel kt.ve ⟨true, rfl, ?_⟩
  have one1 : ([b, !b].count true : Nat) = 1 := by cases b <;> rfl
  have one2 : ([b, !b, false, false].count true : Nat) = 1 := by cases b <;> rfl
  refine ⟨.ref p1, h22, .inl ⟨rfl, _, SqL.of at1'⟩, p1, [b, !b], true, rfl, rfl, SqL.of at1', ?_⟩
  rw [one1]
  refine r2_neU Z H2 hz2 (.int ((1 : Nat) : Int)) (.int 1) (.int ((1 : Nat) : Int)) (.int 1) (.bool false) (Rp.rt (.int _)) (Rp.rt (.int _)) rfl _ fun v H3 n3 r3 => ?_
  cases r3
  refine ⟨false, rfl, ?_⟩
  have at2' : H3 p2 = some (.lst [V.bl b, V.bl (!b), V.bl false, V.bl false]) := n3.at_ _ _ at2 nt_lst
  refine ⟨.ref p2, h32, .inl ⟨rfl, _, SqL.of at2'⟩, p2, [b, !b, false, false], true, rfl, rfl, SqL.of at2', ?_⟩
  rw [one2]
  refine r2_neU Z H3 (fun a z => ((n12.trans n3).dom a (hz a z)).ne) (.int ((1 : Nat) : Int)) (.int 1) (.int ((1 : Nat) : Int)) (.int 1) (.bool false) (Rp.rt (.int _)) (Rp.rt (.int _)) rfl _ fun v H4 n4 r4 => ?_
  cases r4
  refine ⟨false, rfl, ?_⟩
  have n14 : New H H4 := (n12.trans n3).trans n4
  have x5 := (x3.new n3).new n4
  have at1'' : H4 p1 = some (.lst [V.bl b, V.bl (!b)]) := n4.at_ _ _ (n3.at_ _ _ at1' nt_lst) nt_lst
  have at2'' : H4 p2 = some (.lst [V.bl b, V.bl (!b), V.bl false, V.bl false]) := n4.at_ _ _ at2' nt_lst
  have rl1 : RpA Z H4 [V.bl b, V.bl (!b)] [.bool b, .bool (!b)] := .cons (.bl b) (.cons (.bl _) .nil)
  have rl2 : RpA Z H4 [V.bl b, V.bl (!b), V.bl false, V.bl false] [.bool b, .bool (!b), .bool false, .bool false] := .cons (.bl b) (.cons (.bl _) (.cons (.bl _) (.cons (.bl _) .nil)))
  have ix : ∀ {H5 : Hp} {j : Nat} {p : Addr} {us : List V} {ds : List D} (k : Nat) (b' : Bool) {Q : VK}, New H4 H5 → υ[j]? = some (some (.ref p)) → H4 p = some (.lst us) → ¬ Z p → RpA Z H4 us ds → gIx (.list ds) (.int k) = some (.bool b') →
      (∀ H6, New H5 H6 → Q (.bl b') H6) → tOp (rIxA K) (tVar j) (tC (.int k)) υ H5 Q := by
    intro H5 j p us ds k b' Q n h2 h3 zp rr e q2
    refine ⟨.ref p, h2, ?_⟩
    refine r2_ix Z H5 (fun a z => ((n14.trans n).dom a (hz a z)).ne) (.ref p) (.int k) _ _ _ (Rp.rt (.lst zp (n.at_ _ _ h3 nt_lst) (rr.new n))) (Rp.rt (.int _)) e Q fun v H6 n6 rv => ?_
    cases rv
    exact q2 H6 n6
  have fin : ∀ (sg C : Str) (H5 : Hp), New H4 H5 → c = C → sg = cond b (Str.ofString "paper") (Str.ofString "use") → tT3 K a cls d sg C υ H5 E.rt := by
    intro sg C H5 n ec es
    subst ec
    have x' := x5.new n
    show tXf a cls d (He.ga K c) "word" (tVar 1) υ H5 (fun y1 H1 => tCons (tXf a cls d (He.ga K c) "at" (tVar 1)) tNil υ H1 fun ys H2 => (V.str sg :: y1 :: ys).length ≤ sizeLine ∧ nTup (V.str sg :: y1 :: ys) H2 E.rt)
    refine xf_run x' hs2 l1 fun v1 r1 => ?_
    show tXf a cls d (He.ga K c) "at" (tVar 1) υ H5 (fun y2 H2 => (V.str sg :: v1 :: [y2]).length ≤ sizeLine ∧ nTup (V.str sg :: v1 :: [y2]) H2 E.rt)
    refine xf_run x' hs2 l2 fun v2 r2 => ?_
    refine ⟨small_line (by show 3 ≤ 100000; decide), fun p ob hp ho => ?_⟩
    have n2 : New H5 (upd H5 p (.frz ob (.tup [.str sg, v1, v2]))) := New.upd hp
    refine q _ _ ((n14.trans n).trans n2) ?_
    rw [← es]
    exact .tup (fun z => ((n14.trans n).dom p (hz p z)).ne hp) (TupAt.new ho) (.cons (.str sg) (.cons (r1.new n2) (.cons (r2.new n2) .nil)))
  refine ix 0 b (New.refl _) h22 at1'' z1 rl1 (by cases b <;> rfl) fun H5 n5 => ⟨b, rfl, ?_⟩
  cases b with
  | true =>
    rw [if_pos rfl]
    refine ix 0 true n5 h32 at2'' z2 rl2 rfl fun H6 n6 => ⟨true, rfl, ?_⟩
    exact fin _ _ H6 (n5.trans n6) own rfl
  | false =>
    rw [if_neg (by decide)]
    refine ix 1 true n5 h32 at2'' z2 rl2 rfl fun H6 n6 => ⟨true, rfl, ?_⟩
    exact fin _ _ H6 (n5.trans n6) own rfl
theorem clause3 {K : PySem.W.Frag} (k1 : Kits3 K "InvalidPaper" true) (k2 : Kits3 K "NotUsable" false) : ClauseOk K 4 (tHeard3 K) he3 := by
  have both : ∀ c fs r, he3 c fs = some r → ∃ b x1 x2, Kits3 K c b ∧ c = cond b "InvalidPaper" "NotUsable" ∧ fs.lookup (Str.ofString "word") = some x1 ∧ fs.lookup (Str.ofString "at") = some x2 ∧ r = .tuple [.str (cond b (Str.ofString "paper") (Str.ofString "use")), x1, x2] := by
    intro c fs r e
    unfold he3 at e
    split at e
    · rename_i hc
      subst hc
      split at e
      · rename_i x y h1 h2
        cases e
        exact ⟨true, x, y, k1, rfl, h1, h2, rfl⟩
      · cases e
    · split at e
      · rename_i hc
        subst hc
        split at e
        · rename_i x y h1 h2
          cases e
          exact ⟨false, x, y, k2, rfl, h1, h2, rfl⟩
        · cases e
      · cases e
  refine ⟨fun c fs r e => ?_, fun {Z H cls d a c fs r σ E} x hz hl hs e q => ?_⟩
  · obtain ⟨b, _, _, kt, _⟩ := both c fs r e
    exact kt.exm
  · obtain ⟨b, x1, x2, kt, own, l1, l2, rfl⟩ := both c fs r e
    exact heard3 x hz kt own hl hs l1 l2 q
end
end AP

namespace AP
noncomputable section
open PySem PySem.Spec PyProof.Rows L2 RZ
variable [Tbls]
structure HeF3 (K : PySem.W.Frag) (mg : Str → Option Value) : Prop where
  isi : mg "isinstance" = none
  val : mg "ValueError" = none
  pie : mg "PieceError" = some (.ref (He.ga K "PieceError"))
  net : mg "NetError" = some (.ref (He.ga K "NetError"))
  pap : mg "PaperError" = some (.ref (He.ga K "PaperError"))
  txt : mg "TextError" = some (.ref (He.ga K "TextError"))
  spr : mg "SpreadError" = some (.ref (He.ga K "SpreadError"))
  use : mg "NotUsable" = some (.ref (He.ga K "NotUsable"))
  inp : mg "InvalidPaper" = some (.ref (He.ga K "InvalidPaper"))
  xuse : XfC K (He.ga K "NotUsable")
  xinp : XfC K (He.ga K "InvalidPaper")
  u1 : PySem.W.findIn K (.ref (He.ga K "NotUsable")) "word" = some none
  u2 : PySem.W.findIn K (.ref (He.ga K "NotUsable")) "at" = some none
  p1 : PySem.W.findIn K (.ref (He.ga K "InvalidPaper")) "word" = some none
  p2 : PySem.W.findIn K (.ref (He.ga K "InvalidPaper")) "at" = some none
  kp : Kits3 K "InvalidPaper" true
  ku : Kits3 K "NotUsable" false
theorem HeF3.cl [Gd] {K : PySem.W.Frag} {mg : Str → Option Value} (h : HeF3 K mg) : ClauseOk K 4 (tHeard3 K) he3 := clause3 h.kp h.ku
theorem pe_gC {X : Cx} {x z : Str} {pos : Pos} (h : ∃ t, X.mg x = some (.str z t)) (hg : Gl X x) (hd : (x == ("__debug__" : Str)) = false := by decide) : PE X (.Name x pos) (tC (.str z)) := by
  obtain ⟨t, e⟩ := h
  exact pe_glob hg e ⟨t, rfl⟩ hd
section
variable [Gd] {X : Cx}
end
end
end AP

namespace AP
noncomputable section
open PySem PySem.Spec PyProof.Rows L2 RZ
variable [Tbls] [Gd]
theorem lc_inner {tg : TG} {tt : TT} {te : TE} {vs : List Nat} {g : GM} {c : TM} {e : EM} (hg : SnG tg g) (gk : GK vs tg) (hc : SnT tt c) (he : Sn te e) {Z : Zs} {N : List Addr} {k : Nat} {Dl : Addr} (atD : N[k]? = some Dl) {τ : List (Option SV)} {o4 oF : List MO} {σ : L2.St} {H1 : Hp} {items : List D} {J : It}
    (h1 : Rel Z N ⟨τ, o4⟩ σ H1) (src : Src Z N H1 J items) (el : lcLoop k g c e (wipeS τ vs) items o4 = some oF) {Nx0 : Hp → Prop} (fin : ∀ H2, Ext N H1 N H2 → Rob Z N oF H2 → Nx0 H2) :
    ∃ W : Nat → Nat → Hp → Prop, (∃ m, W 0 m H1) ∧ ∀ i m H, W i m H →
      (J.stop i H ∧ Nx0 H) ∨ (J.go i H ∧ ∃ Nx : Hp → Prop, (∀ H', Nx H' → ∃ m', m' < m ∧ W (i + 1) m' H') ∧ ∀ x H', J.yld i H x H' → tg x (wipe σ vs) H' fun σ2 H2 => wipe σ2 vs = wipe σ vs ∧ tt σ2 H2 fun b H3 =>
        if b = true then te σ2 H3 fun y H4 => ∃ acc, H4 Dl = some (.lst acc) ∧ acc.length < sizeLine ∧ Nx (upd H4 Dl (.lst (acc ++ [y]))) else Nx H3) := by
  obtain ⟨G, Y, w, hG, hY⟩ := src
  let Pv : Nat → Hp → Prop := fun i H2 => ∃ o2, Ext N H1 N H2 ∧ Rel Z N ⟨wipeS τ vs, o2⟩ (wipe σ vs) H2 ∧ lcLoop k g c e (wipeS τ vs) (items.drop i) o2 = some oF
  refine ⟨fun i m H => m = items.length - i ∧ i ≤ items.length ∧ Pv i H, ⟨items.length, by simp, Nat.zero_le _, o4, Ext.refl _ _, rel_wipe h1 vs, el⟩, ?_⟩
  rintro i m H ⟨rfl, hi, o2, e2, h2, l2⟩
  have q := hG _ H e2
  by_cases hlt : i < items.length
  · refine .inr ⟨w.goes i H hlt q, Pv (i + 1), fun H' p' => ⟨items.length - (i + 1), by omega, rfl, hlt, p'⟩, fun x H3 hy0 => ?_⟩
    have hy := w.yields i H x H3 hlt q hy0
    obtain ⟨nw, d, hd, rd⟩ := hY i H x H3 N e2 h2.r.zzd hlt hy
    have edrop : items.drop i = d :: items.drop (i + 1) := by
      rw [List.drop_eq_getElem_cons hlt]
      congr 1
      have z := List.getElem?_eq_getElem hlt
      rw [hd] at z
      exact (Option.some.inj z).symm
    rw [edrop] at l2
    unfold lcLoop at l2
    split at l2
    · cases l2
    · rename_i s3 es
      refine gk.kept _ _ _ _ ?_
      refine hg Z _ _ _ H3 (h2.new nw) x (.d d) rd s3 es _ fun M4 σ4 H4 ⟨e4, m4⟩ h4 w4 => ?_
      subst m4
      rw [wipe_wipe σ vs vs fun _ z => z] at w4
      refine ⟨w4, ?_⟩
      have e24 : Ext _ H1 _ H4 := (e2.trans (Ext.new nw)).trans e4
      have back : ∀ {o5 : List MO} {H5 : Hp}, Ext M4 H4 M4 H5 → Rob Z M4 o5 H5 → Rel Z M4 ⟨wipeS τ vs, o5⟩ (wipe σ vs) H5 := fun {o5 H5} e5 r5 =>
        (h2.ext_on (o := o5) (((Ext.new nw).trans e4).trans e5) r5)
      split at l2
      · cases l2
      · rename_i o5 ec
        refine hc Z _ s3 σ4 H4 h4 _ _ ec _ fun M5 H5 ⟨e5, m5⟩ h5 => ?_
        subst m5
        rw [if_neg (by decide)]
        exact ⟨o5, e24.trans e5, back e5 h5.r, l2⟩
      · rename_i o5 ec
        refine hc Z _ s3 σ4 H4 h4 _ _ ec _ fun M5 H5 ⟨e5, m5⟩ h5 => ?_
        subst m5
        rw [if_pos rfl]
        split at l2
        · rename_i x6 o6 ee
          refine he Z _ (s3.on o5) σ4 H5 h5 _ _ ee _ fun M6 v6 H6 ⟨e6, m6⟩ h6 r6 => ?_
          subst m6
          split at l2
          · rename_i acc6 ha6
            split at l2
            · rename_i hl6
              obtain ⟨xs, hx, rx⟩ := h6.r.ob k Dl _ atD ha6
              obtain ⟨g1, g2⟩ := own_mut (ob := .lst (xs ++ [v6])) (r := .l (acc6 ++ [x6])) h6 atD ⟨_, rfl, rpA_snoc rx r6⟩
              exact ⟨xs, hx, Nat.lt_of_lt_of_le (by rw [rx.length]; exact hl6) (small_line (Nat.le_refl _)), _, ((e24.trans e5).trans e6).trans g2, back ((e5.trans e6).trans g2) g1.r, l2⟩
            · cases l2
          · cases l2
        · cases l2
  · have ei : i = items.length := by omega
    subst ei
    rw [List.drop_length] at l2
    unfold lcLoop at l2
    cases l2
    exact .inl ⟨w.stops H q, fin H e2 h2.r⟩
end
end AP

namespace AP
noncomputable section
open PySem PySem.Spec PyProof.Rows L2 RZ
section
variable [Tbls] [Gd]
theorem gSortedW_s6 {xs : List Str} (h : xs.length < 64) : gSortedW [.list (xs.map .str)] = some (.list ((sortS xs).map .str)) := by
  unfold gSortedW gSortedU
  simp only [gSorted_strs h]
def menus6 : List (List Str) := [["ann", "bea", "cyd", "dov", "eve", "fio"].map Str.ofString, ["houses", "none", "short", "wire", "piece", "further"].map Str.ofString, ["a", "ab", "abc", "b", "zz", "zzzzzzzz"].map Str.ofString, ["k", "j", "m", "l", "n", "o"].map Str.ofString, ["end", "outside", "sink", "source", "start", "target"].map Str.ofString, ["g", "k", "n", "s", "t", "u"].map Str.ofString]
def six : List (List Str) := menus6.map sortS
theorem law_namesG {mN : SM} {a : Nat} {lists : List (List Str)} (hN : ∀ {fo : MO}, FeedOk fo → ∃ L fo', runF a mN fo [] = some (.list (L.map .str), fo') ∧ L ∈ lists ∧ FeedOk fo') {n i : Nat} {rest : SM}
    (hr : ∀ j, j < lists.length → ∀ cs x l w, isRt (rest ⟨(none :: some (.m 0) :: List.replicate n none).set i (some (.d (.list ((lists.getD j []).map .str)))), [fdO cs x l w]⟩) = true) :
    lawOk (n + 2) (mSeq (mAsg (mCallF 1 (runF a mN) (mCons (mVar 1) mNil)) (mgName i)) rest) := by
  intro ns hl
  obtain ⟨L, fo, e, hL, hf⟩ := hN (feed0_ok ns)
  obtain ⟨cs, x, l, w, rfl⟩ := hf
  obtain ⟨j, hj, ej⟩ := List.getElem_of_mem hL
  have h0 := hr j hj cs x l w
  have e3 : lists.getD j [] = L := by rw [List.getD_eq_getElem?_getD, List.getElem?_eq_getElem hj, ej]; rfl
  rw [e3] at h0
  have h := isRt_ok h0
  have e2 : mSeq (mAsg (mCallF 1 (runF a mN) (mCons (mVar 1) mNil)) (mgName i)) rest ⟨none :: some (.m 0) :: List.replicate (n + 2 - 2) none, [feed0 ns]⟩ = rest ⟨(none :: some (.m 0) :: List.replicate n none).set i (some (.d (.list (L.map .str)))), [fdO cs x l w]⟩ := by
    simp only [mSeq, mAsg, mCallF, mCons, mVar, mNil, mgName, S.on, gS_eq, sS_eq, List.getElem?_cons_zero, List.getElem?_cons_succ, dats, List.length_nil, Nat.reduceAdd, if_true, e, List.set_cons_zero, Nat.add_sub_cancel]
  rw [e2]
  exact h
end
end
end AP

namespace AP
noncomputable section
open PySem PySem.Spec PyProof.Rows L2 RZ
section
variable [Tbls] [Gd]
mutual
def noL : D → Bool
  | .list _ => false
  | .dict _ => false
  | .tuple ds => noLs ds
  | _ => true
def noLs : List D → Bool
  | [] => true
  | d :: ds => noL d && noLs ds
end
def zb (Z : Zs) (M : List Addr) (vs : List V) : Zs := fun a => zz Z M a ∧ ¬ (a ∈ M ∧ V.ref a ∈ vs)
theorem ob_lk {Z : Zs} {M : List Addr} {o : List MO} {H : Hp} (r : Rob Z M o H) {a : Addr} (h : a ∈ M) : (∃ xs, H a = some (.lst xs)) ∨ ∃ kvs, H a = some (.dK kvs) := by
  obtain ⟨k, hk, e⟩ := List.getElem_of_mem h
  have h1 : M[k]? = some a := by rw [List.getElem?_eq_getElem hk, e]
  have hl : k < o.length := by rw [r.len]; exact hk
  have q := r.ob k a _ h1 (List.getElem?_eq_getElem hl)
  cases e2 : o[k] with
  | l ds => rw [e2] at q; obtain ⟨xs, q, _⟩ := q; exact .inl ⟨_, q⟩
  | k ps => rw [e2] at q; obtain ⟨xs, q, _⟩ := q; exact .inr ⟨_, q⟩
  | r ks => rw [e2] at q; obtain ⟨xs, q, _⟩ := q; exact .inl ⟨_, q⟩
  | g ps => rw [e2] at q; obtain ⟨xs, q, _⟩ := q; exact .inr ⟨_, q⟩
theorem tup_notM {Z : Zs} {M : List Addr} {o : List MO} {H H' : Hp} (r : Rob Z M o H) (n : New H H') {a : Addr} {xs : List V} {w : Bool} (t : TupAt H' a xs w) : a ∉ M := by
  intro h
  rcases ob_lk r h with ⟨ys, e⟩ | ⟨kvs, e⟩
  · have e2 := n.at_ _ _ e nt_lst
    rcases t with ⟨ob, q, _⟩ | ⟨_, q⟩ <;> rw [e2] at q <;> cases q
  · have e2 := n.at_ _ _ e nt_dK
    rcases t with ⟨ob, q, _⟩ | ⟨_, q⟩ <;> rw [e2] at q <;> cases q
mutual
theorem Rp.noL {Z : Zs} {M : List Addr} {o : List MO} {vs : List V} {H H' : Hp} (r : Rob Z M o H) (n : New H H') : ∀ {v : V} {d : D}, Rp (zb Z M vs) H' v d → AP.noL d = true → Rp (zz Z M) H' v d
  | _, _, .non, _ => .non
  | _, _, .bl b, _ => .bl b
  | _, _, .int i, _ => .int i
  | _, _, .str x, _ => .str x
  | _, _, .lst _ _ _, e => by simp [AP.noL] at e
  | _, _, .dct _ _ _, e => by simp [AP.noL] at e
  | _, _, .tup z h q, e => .tup (fun y => z ⟨y, fun w => tup_notM r n h w.1⟩) h (RpA.noL r n q (by simpa [AP.noL] using e))
theorem RpA.noL {Z : Zs} {M : List Addr} {o : List MO} {vs : List V} {H H' : Hp} (r : Rob Z M o H) (n : New H H') : ∀ {us : List V} {ds : List D}, RpA (zb Z M vs) H' us ds → noLs ds = true → RpA (zz Z M) H' us ds
  | _, _, .nil, _ => .nil
  | _, _, .cons h t, e => by
    simp only [noLs, Bool.and_eq_true] at e
    exact .cons (Rp.noL r n h e.1) (RpA.noL r n t e.2)
end
theorem args_zb {Z : Zs} {M : List Addr} {o : List MO} {H : Hp} (r : Rob Z M o H) {ws : List V} : ∀ {vs : List V} {xs : List SV} {ds : List D}, (∀ v ∈ vs, v ∈ ws) → RvA Z M H vs xs → vws o xs = some ds → RpA (zb Z M ws) H vs ds
  | [], [], _, _, .nil, e => by simp only [vws] at e; cases e; exact .nil
  | v :: _, x :: xs, _, hw, .cons h t, e => by
    simp only [vws] at e
    have lo : ∀ {us : List V} {ds : List D}, RpA (zz Z M) H us ds → RpA (zb Z M ws) H us ds := fun r => r.mono fun a o z e _ => ⟨fun y => z y.1, e⟩
    have lk : ∀ {us : List (Key × V)} {ds : List (D × D)}, RpK (zz Z M) H us ds → RpK (zb Z M ws) H us ds := fun r => r.mono fun a o z e _ => ⟨fun y => z y.1, e⟩
    cases e1 : vw o x with
    | none => rw [e1] at e; cases e
    | some d =>
      cases e2 : vws o xs with
      | none => rw [e1, e2] at e; cases e
      | some ds =>
        rw [e1, e2] at e; cases e
        refine .cons ?_ (args_zb r (fun u hu => hw u (List.mem_cons_of_mem _ hu)) t e2)
        cases x with
        | d y => cases e1; exact Rp.mono (fun a o z e _ => ⟨fun y => z y.1, e⟩) h
        | w u => cases e1
        | q _ _ => cases e1
        | t _ => cases e1
        | m k =>
          have q := vw_ok r h e1
          obtain ⟨a, ha, rfl⟩ := h
          have hm : a ∈ M := List.mem_of_getElem? ha
          have nz : ¬ zb Z M ws a := fun y => y.2 ⟨hm, hw _ List.mem_cons_self⟩
          cases d with
          | none => cases q
          | bool b => cases q
          | int i => cases q
          | str x => cases q
          | list ds => obtain ⟨b, us, eb, q1, q2⟩ := q; cases eb; exact .lst nz q1 (lo q2)
          | tuple ds => obtain ⟨b, us, eb, q1, q2, q3⟩ := q; exact absurd (.inr (by cases eb; exact hm)) q3
          | dict ps => obtain ⟨b, us, eb, q1, q2⟩ := q; cases eb; exact .dct nz q1 (lk q2)
theorem zb_has {Z : Zs} {M : List Addr} {o : List MO} {H : Hp} (r : Rob Z M o H) {ws : List V} (a : Addr) (h : zb Z M ws a) : Has H a := h.1.elim (fun z => r.zs a z) fun z => (ob_lk r z).elim (fun ⟨_, e⟩ => ⟨_, e, nt_lst⟩) fun ⟨_, e⟩ => ⟨_, e, nt_dK⟩
def mCallU (n : Nat) (f : Fun1) (a : AM) : EM := fun s => match a s with
  | none => none
  | some (xs, o1) => match vws o1 xs with
    | none => none
    | some ds => if ds.length = n then (match f ds with
      | some d => if noL d = true then some (.d d, o1) else none
      | none => none) else none
theorem sn_callU {n : Nat} {f : Fun1} {E : XK} {ta : TA} {a : AM} (ha : SnA ta a) : Sn (tCall (spP n f) [] E ta) (mCallU n f a) := by
  intro Z M s σ H h w o' e Q q
  unfold mCallU at e
  split at e
  · cases e
  · rename_i xs o1 ea
    refine ha Z M s σ H h _ _ ea _ fun M1 vs H1 e1 h1 r1 => ?_
    split at e
    · cases e
    · rename_i ds hd
      split at e
      · rename_i hn
        split at e
        · rename_i d hf
          split at e
          · rename_i fl
            cases e
            show spP n f (vs ++ []) H1 Q E
            rw [List.append_nil]
            exact ⟨zb Z M1 vs, ds, d, ⟨zb_has h1.r, h1.r.tb⟩, args_zb h1.r (fun _ h => h) r1 hd, hn, hf, fun v H' nw r => q M1 v H' (e1.trans (Ex2.new nw)) (h1.new nw) (Rp.noL h1.r nw r fl)⟩
          · cases e
        · cases e
      · cases e
def frM (N : Nat) (m : SM) (ds : List D) : Bool := match m ⟨st0 N (ds.map .d), []⟩ with
  | some (.rt (.m _) _) => true
  | _ => false
def spPF (n : Nat) (f : Fun1) (fr : List D → Bool) : Sp := fun vs H Q _ => ∃ (Z : Zs) (ds : List D) (d : D), ZOk Z H ∧ RpA Z H vs ds ∧ ds.length = n ∧ f ds = some d ∧ ∀ v H', New H H' → Rp Z H' v d → (fr ds = true → ∀ a, v = .ref a → ¬ Has H a) → Q v H'
section
variable {P : Program} {w : World} {K : PySem.W.Frag} {mg : Str → Option Value} {base : Heap} {x qual : Str} {params : Arguments} {body : List Stmt} {scope : Scope} {dvs : List V} {kws : List (Str × V)} {f : Addr} {fd : FuncData}
theorem def_pureF {N ps : List Str} {k : Nat} {t : TS} {m : SM} (F : FunD K x qual params body scope dvs kws f fd) (sc : FnScope N ps scope)
    (reading : ∀ (cdv : Value), fd.code = cdv → ∀ (A : Around) (outer : List Env) (s : Shared) (H : Hp) (E : XK), GOk A → Room k (A.deeper (envOfC qual scope s.heap.objs.size f cdv)) → PSs (cxOf CX0 P w K mg base N qual scope f cdv A outer s H E) body t)
    (hm : SnS t m) : FnG P w K mg base CX0 (k + 1) f fd ps (spPF ps.length (runP N.length m) (frM N.length m)) := by
  refine fnG_ok F sc (fun vs H Q E h => ?_) (fun cdv hv A outer s H vs Q E hg hr h => ⟨t, reading cdv hv A outer s H E hg hr, ?_⟩)
  · obtain ⟨Z, ds, d, _, r, hl, _⟩ := h
    rw [r.length, hl]
  · obtain ⟨Z, ds, d, hz, r, hl, hf, q⟩ := h
    unfold runP retD at hf
    have rob : Rob Z [] [] H := ⟨List.nodup_nil, hz.z, by simp, rfl, fun k a x e => by simp at e, hz.t⟩
    have rel := st0_rel (N := N) rob (rvA_dats r)
    split at hf
    · rename_i v o' em
      refine hm Z [] _ _ H rel _ em _ fun M' u H' e r' rv => q u H' (ext_new e) (given_up r' rv hf) fun hfr a ea hh => ?_
      unfold frM at hfr
      rw [em] at hfr
      cases v with
      | d y => cases hfr
      | w y => cases hfr
      | q _ _ => cases hfr
      | t _ => cases hfr
      | m j =>
        obtain ⟨b, hb, eb⟩ := rv
        rw [eb] at ea
        have eab := V.ref.inj ea
        subst eab
        exact e.out _ (by simp) hh (List.mem_of_getElem? hb)
    · rename_i s' em
      cases hf
      exact hm Z [] _ _ H rel _ em _ fun M' u H' e r' => q .non H' (ext_new e) .non fun _ a ea => nomatch ea
    · cases hf
end
def okRes (d : D) (b : Bool) : Bool := noL d || (match d with
  | .list es => b && noLs es
  | _ => false)
def mCallW (n : Nat) (f : Fun1) (fr : List D → Bool) (a : AM) : EM := fun s => match a s with
  | none => none
  | some (xs, o1) => match vws o1 xs with
    | none => none
    | some ds => if ds.length = n then (match f ds with
      | some d => if okRes d (fr ds) = true then some (.d d, o1) else none
      | none => none) else none
theorem sn_callW {n : Nat} {f : Fun1} {fr : List D → Bool} {E : XK} {ta : TA} {a : AM} (ha : SnA ta a) : Sn (tCall (spPF n f fr) [] E ta) (mCallW n f fr a) := by
  intro Z M s σ H h w o' e Q q
  unfold mCallW at e
  split at e
  · cases e
  · rename_i xs o1 ea
    refine ha Z M s σ H h _ _ ea _ fun M1 vs H1 e1 h1 r1 => ?_
    split at e
    · cases e
    · rename_i ds hd
      split at e
      · rename_i hn
        split at e
        · rename_i d hf
          split at e
          · rename_i fl
            cases e
            show spPF n f fr (vs ++ []) H1 Q E
            rw [List.append_nil]
            refine ⟨zb Z M1 vs, ds, d, ⟨zb_has h1.r, h1.r.tb⟩, args_zb h1.r (fun _ h => h) r1 hd, hn, hf, fun v H' nw r hfr => q M1 v H' (e1.trans (Ex2.new nw)) (h1.new nw) ?_⟩
            unfold okRes at fl
            rw [Bool.or_eq_true] at fl
            rcases fl with fl | fl
            · exact Rp.noL h1.r nw r fl
            · cases d with
              | list es =>
                rw [Bool.and_eq_true] at fl
                cases r with
                | lst z hx rx =>
                  have nh := hfr fl.1 _ rfl
                  exact .lst (fun y => nh (h1.r.zzh _ y)) hx (RpA.noL h1.r nw rx fl.2)
              | _ => cases fl
          · cases e
        · cases e
      · cases e
end
end
end AP

namespace AP
noncomputable section
open PySem PySem.Spec PyProof.Rows L2 RZ
section
variable [Tbls] [Gd]
def Fz (H H' : Hp) (d : Addr) (kvs : List (Key × V)) : Prop := (∀ a, a ≠ d → H' a = H a) ∧ L2.Rd H d (.dK kvs) ∧ L2.Rd H' d (.dK kvs)
section
variable {Z : Zs} {H H' : Hp} {dd : Addr} {kv0 : List (Key × V)}
theorem Fz.tup (f : Fz H H' dd kv0) {a : Addr} {xs : List V} {w : Bool} (h : TupAt H a xs w) : TupAt H' a xs w := by
  have ne : a ≠ dd := fun e => by
    subst e
    rcases f.2.1 with q | ⟨ob, q⟩ <;> rcases h with ⟨o, e, _⟩ | ⟨_, e⟩ <;> rw [q] at e <;> cases e
  rcases h with ⟨o, e, d⟩ | ⟨q, e⟩
  · exact .inl ⟨o, by rw [f.1 a ne]; exact e, d⟩
  · exact .inr ⟨q, by rw [f.1 a ne]; exact e⟩
theorem Fz.lst (f : Fz H H' dd kv0) {a : Addr} {xs : List V} (h : H a = some (.lst xs)) : H' a = some (.lst xs) := by
  have ne : a ≠ dd := fun e => by
    subst e
    rcases f.2.1 with q | ⟨ob, q⟩ <;> rw [q] at h <;> cases h
  rw [f.1 a ne]; exact h
theorem Fz.dk (f : Fz H H' dd kv0) {a : Addr} {kvs : List (Key × V)} (h : L2.Rd H a (.dK kvs)) : L2.Rd H' a (.dK kvs) := by
  by_cases e : a = dd
  · subst e
    have ek : kvs = kv0 := by
      rcases f.2.1 with q | ⟨ob, q⟩ <;> rcases h with e | ⟨o2, e⟩ <;> rw [q] at e <;> cases e <;> rfl
    rw [ek]; exact f.2.2
  · unfold L2.Rd at *
    rw [f.1 a e]; exact h
mutual
theorem Rp.fz (f : Fz H H' dd kv0) : ∀ {v : V} {d : D}, Rp Z H v d → Rp Z H' v d
  | _, _, .non => .non
  | _, _, .bl b => .bl b
  | _, _, .int i => .int i
  | _, _, .str x => .str x
  | _, _, .lst z h r => .lst z (f.lst h) (RpA.fz f r)
  | _, _, .tup z h r => .tup z (f.tup h) (RpA.fz f r)
  | _, _, .dct z h r => .dct z (f.dk h) (RpK.fz f r)
theorem RpA.fz (f : Fz H H' dd kv0) : ∀ {vs : List V} {ds : List D}, RpA Z H vs ds → RpA Z H' vs ds
  | _, _, .nil => .nil
  | _, _, .cons h r => .cons (Rp.fz f h) (RpA.fz f r)
theorem RpK.fz (f : Fz H H' dd kv0) : ∀ {vs : List (Key × V)} {ds : List (D × D)}, RpK Z H vs ds → RpK Z H' vs ds
  | _, _, .nil => .nil
  | _, _, .cons h r => .cons (Rp.fz f h) (RpK.fz f r)
end
theorem Fz.rg (f : Fz H H' dd kv0) {a : Addr} {lo hi : Int} (h : H a = some (.rng lo hi)) : H' a = some (.rng lo hi) := by
  have ne : a ≠ dd := fun e => by
    subst e
    rcases f.2.1 with q | ⟨ob, q⟩ <;> rw [q] at h <;> cases h
  rw [f.1 a ne]; exact h
theorem RvB.fz {M : List Addr} (f : Fz H H' dd kv0) : ∀ {vs : List V} {xs : List (D ⊕ Nat)}, RvB Z M H vs xs → RvB Z M H' vs xs
  | _, _, .nil => .nil
  | _, _, .d h t => .d (Rp.fz f h) (t.fz f)
  | _, _, .m q t => .m q (t.fz f)
theorem Fz.has (f : Fz H H' dd kv0) {a : Addr} (h : Has H a) : Has H' a := by
  by_cases e : a = dd
  · subst e
    rcases f.2.2 with q | ⟨ob, q⟩
    · exact ⟨_, q, nt_dK⟩
    · exact ⟨_, q, nt_frz⟩
  · obtain ⟨o, e1, e2⟩ := h
    exact ⟨o, by rw [f.1 a e]; exact e1, e2⟩
theorem Fz.ro (f : Fz H H' dd kv0) {M : List Addr} (hd : dd ∉ M) {a : Addr} (ha : a ∈ M) {x : MO} (h : Ro Z M H a x) : Ro Z M H' a x := by
  have ne : a ≠ dd := fun e => hd (e ▸ ha)
  cases x with
  | l ds => obtain ⟨xs, q1, q⟩ := h; exact ⟨xs, by rw [f.1 a ne]; exact q1, q.fz f⟩
  | k ps => obtain ⟨xs, q1, q⟩ := h; exact ⟨xs, by rw [f.1 a ne]; exact q1, q.fz f⟩
  | r ks => obtain ⟨xs, q1, q⟩ := h; exact ⟨xs, by rw [f.1 a ne]; exact q1, q⟩
  | g ps => obtain ⟨xs, q1, q⟩ := h; exact ⟨xs, by rw [f.1 a ne]; exact q1, q⟩
end
theorem Fz.tabs {H : Hp} {d : Addr} {u u' : HO} (h : H d = some u) (n : nt u) (n2 : ∀ φ, u ≠ .ext φ) (t : LamX.Tabs Tbls.T H) : LamX.Tabs Tbls.T (upd H d u') := fun p hp => tab_upd h n n2 (t p hp)
theorem fz_lock {H : Hp} {d : Addr} {kvs : List (Key × V)} {od : Obj} (h : H d = some (.dK kvs)) : Fz H (upd H d (.frz od (.dK kvs))) d kvs := ⟨fun a ne => upd_ne ne, .inl h, .inr ⟨od, upd_same⟩⟩
theorem fz_unlock {H : Hp} {d : Addr} {kvs : List (Key × V)} {od : Obj} (h : H d = some (.frz od (.dK kvs))) : Fz H (upd H d (.dK kvs)) d kvs := ⟨fun a ne => upd_ne ne, .inr ⟨od, h⟩, .inl upd_same⟩
theorem Rob.fz {Z : Zs} {M : List Addr} {o : List MO} {H H' : Hp} {d : Addr} {kvs : List (Key × V)} (f : Fz H H' d kvs) (tb : LamX.Tabs Tbls.T H') (hd : d ∉ M) (r : Rob Z M o H) : Rob Z M o H' :=
  ⟨r.nd, fun a ha => f.has (r.zs a ha), r.nz, r.len, fun k a x h1 h2 => f.ro hd (List.mem_of_getElem? h1) (r.ob k a x h1 h2), tb⟩
theorem Rel.fz {Z : Zs} {M : List Addr} {s : S} {σ : L2.St} {H H' : Hp} {d : Addr} {kvs : List (Key × V)} (f : Fz H H' d kvs) (tb : LamX.Tabs Tbls.T H') (hd : d ∉ M) (r : Rel Z M s σ H) : Rel Z M s σ H' :=
  ⟨r.r.fz f tb hd, fun i sv q => by
    obtain ⟨v, q1, q2⟩ := r.sl i sv q
    refine ⟨v, q1, ?_⟩
    cases sv with
    | d x => exact Rp.fz f q2
    | m k => exact q2
    | w u => exact q2
    | q lo hi =>
      obtain ⟨a, e1, z, g⟩ := q2
      exact ⟨a, e1, z, f.rg g⟩
    | t xs =>
      obtain ⟨a, vs, e1, z, g, rb⟩ := q2
      exact ⟨a, vs, e1, z, f.tup g, rb.fz f⟩, r.sn⟩
def keysD (ps : List (D × D)) : List D := ps.map (·.1)
theorem keysD_rp {Z : Zs} {H : Hp} : ∀ {kvs : List (Key × V)} {ps : List (D × D)}, RpK Z H kvs ps → kvs.map (fun kv => kD kv.1) = keysD ps
  | _, _, .nil => rfl
  | _, _, .cons h r => by simp only [List.map_cons, keysD, keysD_rp r]
theorem rp_kV {Z : Zs} {H : Hp} (k : Key) : Rp Z H (kV k) (kD k) := by
  cases k with
  | inl i => exact .int i
  | inr x => exact .str x
def tLcK (K : PySem.W.Frag) (i : Nat) (wi : TI) (tg : TG) (tt : TT) (te : TE) (vs : List Nat) : TE := fun σ H Q => tLc wi tg tt te vs σ H Q ∨ tLockE (tLc (iKeys (tVar i)) tg tt te vs) σ H Q ∨ tLc (iKeys (tVar i)) tg tt te vs σ H Q
theorem pe_or3 {X : Cx} {e : Expr} {t u v : TE} (a : PE X e t) (b : PE X e u) (c : PE X e v) : PE X e (fun σ H Q => t σ H Q ∨ u σ H Q ∨ v σ H Q) :=
  ⟨fun pins s σ H Q I h => h.elim (a.run pins s σ H Q I) fun h => h.elim (b.run pins s σ H Q I) (c.run pins s σ H Q I)⟩
def mLcK (i : Nat) (im : IM) (g : GM) (c : TM) (e : EM) (vs : List Nat) : NM := fun s => match gS s.σ i with
  | some (some (.d (.dict ps))) => (match lcLoop s.o.length g c e (wipeS s.σ vs) (keysD ps) (s.o ++ [.l []]) with
    | none => none
    | some oF => (match oF[s.o.length]? with
      | some (.l acc) => some (.l acc, oF.take s.o.length)
      | _ => none))
  | _ => mLc im g c e vs s
theorem src_keys {Z : Zs} {M : List Addr} {H : Hp} {d : Addr} {od : Obj} {kvs : List (Key × V)} {ps : List (D × D)} (hd : d ∉ M) (h : H d = some (.frz od (.dK kvs))) (r : RpK (zz Z M) H kvs ps) : Src Z M H (Itk d od kvs) (keysD ps) := by
  have el : (keysD ps).length = kvs.length := by rw [← keysD_rp r, List.length_map]
  refine ⟨_, _, by rw [el]; exact L2.walk_keys, fun M2 H2 e => e.keep d _ hd h nt_frz, fun i H2 x H3 M2 e _ hi y => ?_⟩
  obtain ⟨rfl, k, v, hk, rfl⟩ := y
  refine ⟨New.refl _, kD k, ?_, rp_kV k⟩
  rw [← keysD_rp r, List.getElem?_map, hk]
  rfl
theorem lc_keys {tg : TG} {tt : TT} {te : TE} {vs : List Nat} {g : GM} {c : TM} {e : EM} (hg : SnG tg g) (gk : GK vs tg) (hc : SnT tt c) (he : Sn te e) {Z : Zs} {M : List Addr} {s : S} {σ : L2.St} {H : Hp} {d : Addr} {od : Obj} {kvs : List (Key × V)} {ps : List (D × D)} {i : Nat} {oF : List MO} {acc : List D}
    (h : Rel Z M s σ H) (hs : σ[i]? = some (some (.ref d))) (hd : d ∉ M) (hf : H d = some (.frz od (.dK kvs))) (r : RpK (zz Z M) H kvs ps) (el : lcLoop s.o.length g c e (wipeS s.σ vs) (keysD ps) (s.o ++ [.l []]) = some oF) (hacc : oF[s.o.length]? = some (.l acc))
    {Q : VK} (q : ∀ p H', Ext M H (M ++ [p]) H' → Rel Z (M ++ [p]) { s with o := oF.take s.o.length ++ [.l acc] } σ H' → Q (.ref p) H') : tLc (iKeys (tVar i)) tg tt te vs σ H Q := by
  refine ⟨.ref d, hs, d, od, rfl, .inl ⟨kvs, hf, fun Dl hD => ?_⟩⟩
  have k1 : s.o.length = M.length := h.r.len
  obtain ⟨n1, n2⟩ := own_new (ob := .lst []) (r := .l []) h hD ⟨[], rfl, .nil⟩
  have atD : (M ++ [Dl])[s.o.length]? = some Dl := by
    rw [k1, List.getElem?_append_right (Nat.le_refl _)]; simp
  have hdl : d ≠ Dl := fun e => by subst e; rw [hf] at hD; cases hD
  have hd2 : d ∉ M ++ [Dl] := by
    simp only [List.mem_append, List.mem_singleton, not_or]
    exact ⟨hd, hdl⟩
  have hf2 : (upd H Dl (.lst [])) d = some (.frz od (.dK kvs)) := by rw [upd_ne hdl]; exact hf
  have src : Src Z (M ++ [Dl]) (upd H Dl (.lst [])) (Itk d od kvs) (keysD ps) := src_keys hd2 hf2 (n2.mono_k r)
  refine lc_inner hg gk hc he atD (τ := s.σ) (o4 := s.o ++ [.l []]) n1 src el fun H2 e2 r2 => ?_
  have hl : oF.length = s.o.length + 1 := by
    have z := r2.len
    simp at z
    rw [k1]; exact z
  have eo : oF.take s.o.length ++ [.l acc] = oF := by
    have z := List.take_append_getElem (show s.o.length < oF.length by omega)
    have z2 := List.getElem?_eq_getElem (show s.o.length < oF.length by omega)
    rw [hacc] at z2
    rw [Option.some.inj z2, z, List.take_of_length_le (by omega)]
  refine q Dl H2 (n2.trans e2) ?_
  rw [eo]
  exact h.ext_on (o := oF) (n2.trans e2) r2
theorem sn_lcK {K : PySem.W.Frag} {i : Nat} {wi : TI} {tg : TG} {tt : TT} {te : TE} {vs : List Nat} {im : IM} {g : GM} {c : TM} {e : EM} (hi : SnI wi im) (hg : SnG tg g) (gk : GK vs tg) (hc : SnT tt c) (he : Sn te e) : SnN (tLcK K i wi tg tt te vs) (mLcK i im g c e vs) := by
  intro Z M s σ H h r o' ev Q q
  unfold mLcK at ev
  rw [gS_eq] at ev
  split at ev
  · rename_i ps hs
    split at ev
    · cases ev
    · rename_i oF el
      split at ev
      · rename_i acc hacc
        cases ev
        obtain ⟨v, h1, h2⟩ := h.sl i _ hs
        have h3 : Rp (zz Z M) H v (.dict ps) := h2
        cases h3 with
        | dct z hr rk =>
          rename_i d kvs
          have hdM : d ∉ M := fun y => z (.inr y)
          rcases hr with hu | ⟨od, hf⟩
          · refine .inr (.inl ⟨d, _, hu, by trivial, fun od => ?_⟩)
            have fz := fz_lock (od := od) hu
            have tb1 := Fz.tabs (u' := .frz od (.dK kvs)) hu nt_dK (fun _ z => nomatch z) h.r.tb
            refine lc_keys (od := od) hg gk hc he (h.fz fz tb1 hdM) h1 hdM upd_same (RpK.fz fz rk) el hacc fun p H' e' r' => ?_
            have hd' : H' d = some (.frz od (.dK kvs)) := e'.keep d _ hdM upd_same nt_frz
            refine ⟨hd', ?_⟩
            have pd : d ∉ M ++ [p] := e'.out d hdM ⟨_, upd_same, nt_frz⟩
            have tb2 := Fz.tabs (u' := .dK kvs) hd' nt_frz (fun _ z => nomatch z) r'.r.tb
            refine q M p _ rfl ⟨e'.pre, fun a g1 g2 => e'.out a g1 (fz.has g2), fun a o g1 g2 n => ?_, fun a ha => (fz_unlock hd').has (e'.dom a (fz.has ha)), fun _ => tb2⟩ (r'.fz (fz_unlock hd') tb2 pd)
            by_cases ea : a = d
            · subst ea
              rw [hu] at g2
              cases g2
              exact upd_same
            · rw [upd_ne ea]
              exact e'.keep a o g1 (by rw [upd_ne ea]; exact g2) n
          · exact .inr (.inr (lc_keys hg gk hc he h h1 hdM hf rk el hacc fun p H' e' r' => q M p H' rfl e' r'))
      · cases ev
  · exact .inl (sn_lc hi hg gk hc he Z M s σ H h r o' ev Q q)
end
end
end AP

namespace AP
noncomputable section
open PySem PySem.Spec PyProof.Rows L2 RZ
section
variable [Tbls] [Gd]
end
end
end AP

namespace AP
noncomputable section
open PySem PySem.Spec PyProof.Rows L2 RZ
section
variable [Tbls] [Gd]
end
end
end AP

namespace AP
noncomputable section
open PySem PySem.Spec PyProof.Rows L2
section
variable {κ : Type} [DecidableEq κ] {P : Program} {w : World}
structure Mem (knd : HeapKind P w κ) : Prop where
  stays : knd.Stays
  room : ∀ {A : Around}, A.units < cLine → knd.room A
  cls : ∀ {A : Around} {E : Value → Shared → Prop} {s : Shared} {k : κ} {b : Addr} {Q : Bool → Shared → Prop}, knd.is s.heap k b → Q false s → wpAny (model P w) A (ofAClassStatement 8 (.ref b)) Q E s
  byv : ∀ {A : Around} {E : Value → Shared → Prop} {s : Shared} {k : κ} {b : Addr} {Q : Bool → Shared → Prop}, knd.is s.heap k b → (∀ r, Q r s) → wpAny (model P w) A (hashByValue 8 (.ref b)) Q E s
abbrev rowG (knd : HeapKind P w κ) (p : Addr × κ) : Int × Value := (knd.hash p.2, .ref p.1)
abbrev hashG (knd : HeapKind P w κ) (p : Addr × κ) : Int := knd.hash p.2
structure SetG (knd : HeapKind P w κ) (h : Heap) (a : Addr) (L : List (Addr × κ)) (es : Array (Int × Value)) (ep : Nat) (t : SetTable) : Prop where
  ob : ∃ o, h.get? a = some o ∧ o.ExactSet ∧ o.data = .set es ep t
  rows : es.toList = L.map (rowG knd)
  tab : TabOk t (L.map (hashG knd))
  nd : (L.map (·.2)).Nodup
  mem : ∀ p ∈ L, knd.is h p.2 p.1
  led : w.params.followText "set-order" = true ∨ t.led = true
  few : L.length ≤ 4
  msk : t.mask = 7
section
variable {knd : HeapKind P w κ} {A : Around} {E : Value → Shared → Prop} {s : Shared} {a : Addr} {L : List (Addr × κ)} {es : Array (Int × Value)} {ep : Nat} {t : SetTable}
theorem SetG.len (R : SetG knd s.heap a L es ep t) : es.size = L.length := by
  simpa using congrArg List.length R.rows
theorem SetG.places (R : SetG knd s.heap a L es ep t) : t.place.toList.length = L.length := by
  simpa using R.tab.sz
theorem SetG.fits (R : SetG knd s.heap a L es ep t) : t.fits es.size = true := by
  have h1 := R.places
  rw [Array.length_toList] at h1
  have h2 := R.len
  have h3 := R.few
  have h4 := R.msk
  simp only [SetTable.fits, SetTable.fill, R.tab.dm, Bool.and_eq_true, beq_iff_eq, decide_eq_true_eq]
  constructor
  · omega
  · show t.place.size + 0 ≤ t.mask
    omega
theorem SetG.row (R : SetG knd s.heap a L es ep t) {i : Nat} {p : Addr × κ} (h : L[i]? = some p) : es[i]? = some (rowG knd p) := by
  rw [← Array.getElem?_toList, R.rows, List.getElem?_map, h]
  rfl
theorem SetG.whole (R : SetG knd s.heap a L es ep t) : ¬ t.gaveWay = true := by
  simp [SetTable.gaveWay, R.msk]
theorem Mem.but (m : Mem knd) {h h' : Heap} {k : κ} {b : Addr} {o : Obj} (x : knd.is h k b) (ho : h.get? a = some o) (hd : o.data = .set es ep t) (sb : Heap.SameBut a h h') : knd.is h' k b :=
  m.stays.stays (fun c oc vs n e1 e2 => by
    have ne : c ≠ a := fun e => by
      rw [e, ho] at e1
      rw [← Option.some.inj e1, hd] at e2
      cases e2
    exact (sb.2 c ne).trans e1) x
theorem Mem.more (m : Mem knd) {h h' : Heap} {k : κ} {b : Addr} (x : knd.is h k b) (hk : ∀ c o, h.get? c = some o → h'.get? c = some o) : knd.is h' k b := m.stays.stays (fun c o _ _ e _ => hk c o e) x
theorem Mem.unseen (m : Mem knd) {k : κ} {b : Addr} {Q : Bool → Shared → Prop} (hk : knd.is s.heap k b) {ys : List Value} (hy : ∀ y ∈ ys, ∃ k' c, y = Value.ref c ∧ knd.is s.heap k' c) (h : Q false s) :
    wpAny (model P w) A (searchCouldBeSeen (.ref b) ys) Q E s := by
  unfold searchCouldBeSeen
  refine wpAny_bind (wpAny_forIn_list _ (fun rest r s' => r.1 = none ∧ s' = s ∧ ∀ y ∈ rest, ∃ k' c, y = Value.ref c ∧ knd.is s.heap k' c) _ ?_ ?_ _ _ ⟨rfl, rfl, hy⟩)
  · rintro v rest r s' ⟨hr, rfl, all⟩
    obtain ⟨k', c, rfl, hc⟩ := all v List.mem_cons_self
    have all' := fun u hu => all u (List.mem_cons_of_mem _ hu)
    dsimp only
    by_cases hv : (b == c || (carriedByValue (.ref b) && carriedByValue (.ref c))) = true
    · exact wp_if_pos hv (wpAny_pure ⟨rfl, rfl, all'⟩)
    · refine wp_if_neg hv (wpAny_bind (knd.quiet hk ?_))
      simp only [Bool.not_true, Bool.false_eq_true, if_false]
      refine wpAny_bind (knd.quiet hc ?_)
      simp only [Bool.not_true, Bool.false_eq_true, if_false]
      refine wpAny_bind (m.cls hk ?_)
      simp only [Bool.false_eq_true, if_false]
      refine wpAny_bind (m.cls hc ?_)
      simp only [Bool.false_eq_true, if_false]
      exact wpAny_pure ⟨rfl, rfl, all'⟩
  · rintro ⟨r1, r2⟩ s' ⟨hr, rfl, _⟩
    simp only at hr
    subst hr
    exact wpAny_pure h
theorem nth_quiet (m : Nat) : ∀ (n : Nat) (p : SetTable.Probe), p.dummy = none → (nth m p n).dummy = none
  | 0, _, h => h
  | n + 1, p, h => nth_quiet m n (adv m p) (by unfold adv; split <;> exact h)
theorem SetG.find (m : Mem knd) (R : SetG knd s.heap a L es ep t) {x : Addr} {k : κ} (hx : knd.is s.heap k x) (hu : A.units < cLine) {K : Nat} (hKf : K < 10 * SetTable.turns t.mask)
    (hK : way t.mask (knd.hash k) K ∉ t.place.toList) (hKb : ∀ c, c < K → way t.mask (knd.hash k) c ∈ t.place.toList) {Q : SetFound → Shared → Prop}
    (yes : k ∈ L.map (·.2) → Q (.there none) s) (no : k ∉ L.map (·.2) → Q (.free (way t.mask (knd.hash k) K) false) s) :
    ∀ (f c : Nat) (st : Option SetTable.Probe), st.getD (t.probeStart (knd.hash k)) = nth t.mask (t.probeStart (knd.hash k)) c → c ≤ K → K - c < f →
      (∀ (c' i : Nat) p, c' < c → L[i]? = some p → t.place.toList[i]? = some (way t.mask (knd.hash k) c') → p.2 ≠ k) → wpAny (model P w) A (setSearchFrom a (.ref x) (knd.hash k) true f st) Q E s
  | 0, c, st, _, _, hf, _ => absurd hf (Nat.not_lt_zero _)
  | f + 1, c, st, hst, hc, hf, past => by
    obtain ⟨o, ho, hex, hd⟩ := R.ob
    have hst : st.getD (t.probeStart (knd.hash k)) = nth t.mask (runAt t.mask (SetTable.bits (knd.hash k) % (t.mask + 1)) (SetTable.bits (knd.hash k))) c := hst
    have at_ : ∀ q, nth t.mask (nth t.mask (runAt t.mask (SetTable.bits (knd.hash k) % (t.mask + 1)) (SetTable.bits (knd.hash k))) c) q = nth t.mask (runAt t.mask (SetTable.bits (knd.hash k) % (t.mask + 1)) (SetTable.bits (knd.hash k))) (c + q) := fun q => (nth_add t.mask c _ q).symm
    have way_ : ∀ q, (nth t.mask (nth t.mask (runAt t.mask (SetTable.bits (knd.hash k) % (t.mask + 1)) (SetTable.bits (knd.hash k))) c) q).j = way t.mask (knd.hash k) (c + q) := fun q => congrArg SetTable.Probe.j (at_ q)
    have hashAt : ∀ (i : Nat) p, L[i]? = some p → (es[i]?.map (·.1)).getD 0 = knd.hash p.2 := fun i p hp => by rw [R.row hp]; rfl
    have spec := go_spec t R.tab.ris R.tab.dm (fun i => (es[i]?.map (·.1)).getD 0) (knd.hash k) (10 * SetTable.turns t.mask) (K - c) _ (nth_quiet _ c (runAt t.mask (SetTable.bits (knd.hash k) % (t.mask + 1)) (SetTable.bits (knd.hash k))) rfl) (by omega)
      (fun q hq => by rw [way_]; exact hKb _ (by omega)) (by rw [way_, show c + (K - c) = K by omega]; exact hK)
    rw [setSearchFrom_succ]
    refine wpAny_bind (wpAny_setState_of ho hd R.fits ?_)
    dsimp only
    refine wp_if_neg R.whole ?_
    try refine wpAny_bind (wpAny_pure ?_)
    rcases spec with ⟨q, i, hq, hi, hh, before, found⟩ | ⟨before, found⟩
    · rw [way_] at hi found
      rw [at_] at found
      rw [← hst] at found
      rw [show t.probe (fun i => (es[i]?.map (·.1)).getD 0) (knd.hash k) (st.getD (t.probeStart (knd.hash k))) = _ from found]
      dsimp only
      have hil : i < L.length := by
        rw [← R.places]
        exact (List.getElem?_eq_some_iff.mp hi).1
      obtain ⟨p, hp⟩ : ∃ p, L[i]? = some p := ⟨_, List.getElem?_eq_getElem hil⟩
      have pm : p ∈ L := List.mem_of_getElem? hp
      have go : wpAny (model P w) A (searchRest a (.ref x) (knd.hash k) true f es t (way t.mask (knd.hash k) (c + q)) i (nth t.mask (runAt t.mask (SetTable.bits (knd.hash k) % (t.mask + 1)) (SetTable.bits (knd.hash k))) (c + (q + 1)))) Q E s := by
        unfold searchRest
        rw [R.row hp]
        dsimp only
        refine wpAny_bind (wpAny_holding (knd.eqBool (m.room hu) (R.mem p pm) hx (wpAny_bind (wpAny_setState_of ho hd R.fits ?_))))
        dsimp only
        by_cases e : p.2 = k
        · exact wp_if_pos (by simp [e]) (wpAny_pure (yes (List.mem_map.mpr ⟨p, pm, e⟩)))
        · refine wp_if_neg (by simp [e]) ?_
          try refine wpAny_bind (wpAny_pure ?_)
          have live : t.slot (way t.mask (knd.hash k) (c + q)) = .live i := slot_live R.tab.ris hi
          rw [sameMem]
          dsimp only
          simp only [if_true, live, R.row hp]
          refine wpAny_bind (wpAny_isSame_ref_self (wpAny_bind (wpAny_pure ?_)))
          simp only [if_true]
          refine wp_if_neg (by simp [e]) (SetG.find m R hx hu hKf hK hKb yes no f (c + (q + 1)) _ rfl (by omega) (by omega) fun c' j p' hlt hj hpl ek => ?_)
          by_cases h1 : c' < c
          · exact past c' j p' h1 hj hpl ek
          · by_cases h2 : c' = c + q
            · subst h2
              have s0 := slot_live R.tab.ris hpl
              rw [live] at s0
              injection s0 with s0
              subst s0
              rw [hp] at hj
              exact e (by rw [Option.some.inj hj]; exact ek)
            · refine before (c' - c) j (by omega) (by rw [way_, show c + (c' - c) = c' by omega]; exact hpl) ?_
              rw [hashAt j p' hj, ek]
      by_cases hl : t.led = true
      · refine wp_if_neg (by simp [hl]) ?_
        try refine wpAny_bind (wpAny_pure ?_)
        exact go
      · refine wp_if_pos (by simp [hl]) (wpAny_bind (m.unseen hx (fun y hy => ?_) ?_))
        · obtain ⟨e, he, rfl⟩ := List.mem_map.mp hy
          have he2 : e ∈ es.toList := by
            have he1 : e ∈ es ∧ e.1 = knd.hash k := by simpa using he
            simpa using he1.1
          rw [R.rows] at he2
          obtain ⟨p2, hp2, rfl⟩ := List.mem_map.mp he2
          exact ⟨p2.2, p2.1, rfl, R.mem p2 hp2⟩
        · refine wp_if_neg (by decide) ?_
          try refine wpAny_bind (wpAny_pure ?_)
          exact go
    · rw [way_, show c + (K - c) = K by omega] at found
      rw [← hst] at found
      rw [show t.probe (fun i => (es[i]?.map (·.1)).getD 0) (knd.hash k) (st.getD (t.probeStart (knd.hash k))) = _ from found]
      dsimp only
      refine wpAny_pure (no fun hm => ?_)
      obtain ⟨p0, h0, ek⟩ := List.mem_map.mp hm
      obtain ⟨i0, hi0, e0⟩ := List.getElem_of_mem h0
      have hL : L[i0]? = some p0 := by rw [List.getElem?_eq_getElem hi0, e0]
      have hpl : i0 < t.place.toList.length := by rw [R.places]; exact hi0
      obtain ⟨c', hlt, hw⟩ := R.tab.before hK (h := knd.hash k) (i := i0) (by rw [List.getElem?_map, hL, ← ek]; rfl) (List.getElem?_eq_getElem hpl)
      have hj : t.place.toList[i0]? = some (way t.mask (knd.hash k) c') := by rw [List.getElem?_eq_getElem hpl, hw]
      by_cases h1 : c' < c
      · exact past c' i0 p0 h1 hL hj ek
      · refine before (c' - c) i0 (by omega) (by rw [way_, show c + (c' - c) = c' by omega]; exact hj) ?_
        rw [hashAt i0 p0 hL, ek]
theorem SetG.search (m : Mem knd) (R : SetG knd s.heap a L es ep t) {x : Addr} {k : κ} (hx : knd.is s.heap k x) (hu : A.units < cLine) {Q : SetFound → Shared → Prop} (yes : k ∈ L.map (·.2) → Q (.there none) s)
    (no : ∀ K, k ∉ L.map (·.2) → way t.mask (knd.hash k) K ∉ t.place.toList → (∀ c, c < K → way t.mask (knd.hash k) c ∈ t.place.toList) → Q (.free (way t.mask (knd.hash k) K) false) s) :
    wpAny (model P w) A (setSearch a (.ref x) (knd.hash k) true) Q E s := by
  obtain ⟨K, k1, k2, k3⟩ := R.tab.first (by have h1 := R.few; have h2 := R.msk; rw [List.length_map]; omega) (knd.hash k)
  have big : K < 100000 := by
    have : SetTable.turns t.mask ≤ 100 := by
      rw [R.msk]
      decide
    omega
  unfold setSearch
  exact SetG.find m R hx hu k1 k2 k3 yes (fun hn => no K hn k2 k3) 100000 0 none rfl (Nat.zero_le _) (by omega) fun _ _ _ h => absurd h (Nat.not_lt_zero _)
theorem tab_plain {t : SetTable} {hs : List Int} (T : TabOk t hs) (b : Bool) : TabOk { t with plain := b } hs := ⟨T.ris, T.dm, T.sz, T.mok, T.bd, T.reach⟩
theorem SetG.add (m : Mem knd) (R : SetG knd s.heap a L es ep t) {x : Addr} {k : κ} (hx : knd.is s.heap k x) (hu : A.units < cLine) (room : L.length < 4) {Q : Bool → Shared → Prop}
    (hQ : ∀ b h' L' es' ep' t', Heap.SameBut a s.heap h' → SetG knd h' a L' es' ep' t' → (k ∈ L.map (·.2) → L' = L) → (k ∉ L.map (·.2) → L'.Perm ((x, k) :: L)) → Q b { s with heap := h' }) :
    wpAny (model P w) A (setAddHashed a (.ref x) (knd.hash k)) Q E s := by
  obtain ⟨o, ho, hex, hd⟩ := R.ob
  unfold setAddHashed
  rw [show (100000 : Nat) = 99999 + 1 from rfl]
  refine wpAny_holding ?_
  rw [setAddHashedIn_succ]
  refine wpAny_bind (wpAny_setState_of ho hd R.fits ?_)
  dsimp only
  refine wp_if_neg (by simp [byScan, Value.scannable]) ?_
  try refine wpAny_bind (wpAny_pure ?_)
  refine wpAny_bind (R.search m hx hu (fun hm => ?_) fun K hm hK hb => ?_)
  · exact wpAny_pure (hQ false s.heap L es ep t (Heap.SameBut.refl a s.heap) R (fun _ => rfl) fun z => absurd hm z)
  · dsimp only
    refine wpAny_bind (wpAny_setState_of ho hd R.fits ?_)
    dsimp only
    obtain ⟨q1, q2, q3, q4, q5, _, _, _, q9⟩ := R.tab.put hK hb
    generalize t.put (way t.mask (knd.hash k) K) = pt at q1 q3 q4 q5 q9 ⊢
    obtain ⟨t1, p⟩ := pt
    dsimp only at q1 q3 q4 q5 q9 ⊢
    rw [← q1] at q2 q3
    have perm : (L.take p ++ (x, k) :: L.drop p).Perm ((x, k) :: L) := by
      have h := List.perm_middle (a := (x, k)) (l₁ := L.take p) (l₂ := L.drop p)
      rwa [List.take_append_drop] at h
    have fin : ∀ r : Bool, wpAny (model P w) A (do
        storeSet a (SetTable.insertAt es p (knd.hash k, Value.ref x)) (if r = true then t1 else { t1 with plain := false })
        if (!false && (if r = true then t1 else { t1 with plain := false }).tooFull) = true then setRelay a (SetTable.grown (es.size + 1))
        return true) Q E s := fun r => by
      obtain ⟨t2, e2⟩ : ∃ t2, t2 = if r = true then t1 else { t1 with plain := false } := ⟨_, rfl⟩
      have facts : TabOk t2 ((L.map (hashG knd)).take p ++ knd.hash k :: (L.map (hashG knd)).drop p) ∧ t2.mask = t.mask ∧ t2.led = t.led ∧ t2.fill = L.length + 1 := by
        rw [List.length_map] at q9
        cases r
        · rw [if_neg Bool.false_ne_true] at e2
          rw [e2]
          exact ⟨tab_plain q3 false, q4, q5, q9⟩
        · rw [if_pos rfl] at e2
          rw [e2]
          exact ⟨q3, q4, q5, q9⟩
      rw [← e2]
      obtain ⟨T2, em, el, ef⟩ := facts
      have rows : (SetTable.insertAt es p (knd.hash k, Value.ref x)).toList = (L.take p ++ (x, k) :: L.drop p).map (rowG knd) := by
        rw [SetTable.toList_insertAt, R.rows, List.map_append, List.map_cons, List.map_take, List.map_drop]
      have keys : (L.map (hashG knd)).take p ++ knd.hash k :: (L.map (hashG knd)).drop p = (L.take p ++ (x, k) :: L.drop p).map (hashG knd) := by
        rw [List.map_append, List.map_cons, List.map_take, List.map_drop]
      rw [keys] at T2
      have len : (L.take p ++ (x, k) :: L.drop p).length = L.length + 1 := perm.length_eq
      have size : (SetTable.insertAt es p (knd.hash k, Value.ref x)).size = L.length + 1 := by
        rw [← Array.length_toList, rows, List.length_map, len]
      have one : ((L.take p ++ (x, k) :: L.drop p).map (·.2)).Nodup := (perm.map (·.2)).nodup_iff.mpr (List.nodup_cons.mpr ⟨hm, R.nd⟩)
      generalize SetTable.insertAt es p (knd.hash k, Value.ref x) = es1 at rows size ⊢
      generalize L.take p ++ (x, k) :: L.drop p = L1 at perm len T2 one rows
      refine wpAny_bind (wpAny_storeSet_of ho hd ?_ (by rw [size, sizeLine_eq]; omega))
      have sb : Heap.SameBut a s.heap (s.heap.update a (Obj.putSet es1 t2)) := Heap.SameBut.update ..
      have ho1 := store_at (es' := es1) (t' := t2) ho hd
      have tf : t2.tooFull = false := by
        have h1 := R.msk
        simp only [SetTable.tooFull, ef, em, h1, decide_eq_false_iff_not]
        omega
      have R1 : SetG knd (s.heap.update a (Obj.putSet es1 t2)) a L1 es1 (ep + 1) t2 := ⟨⟨_, ho1, ⟨hex.1, hex.2.1, hex.2.2⟩, rfl⟩, rows, T2, one, fun q hq => by
        rcases List.mem_cons.mp (perm.mem_iff.mp hq) with e | hq
        · rw [e]; exact m.but hx ho hd sb
        · exact m.but (R.mem q hq) ho hd sb, by rw [el]; exact R.led, by rw [len]; omega, by rw [em]; exact R.msk⟩
      refine wp_if_neg (by simp [tf]) ?_
      try refine wpAny_bind (wpAny_pure ?_)
      exact wpAny_pure (hQ true _ L1 es1 (ep + 1) t2 sb R1 (fun z => absurd z hm) fun _ => perm)
    by_cases hp : t1.plain = true
    · first
        | exact wp_if_pos hp (wpAny_bind (m.byv hx fin))
        | exact wpAny_bind (wp_if_pos hp (m.byv hx fin))
    · first
        | exact wp_if_neg hp (fin true)
        | exact wpAny_bind (wp_if_neg hp (wpAny_pure (fin true)))
structure Brought (ks : List (Addr × κ)) (i : Nat) (L : List (Addr × κ)) : Prop where
  sub : ∀ p ∈ L, p ∈ ks
  all : ∀ j, j < i → ∀ p, ks[j]? = some p → p.2 ∈ L.map (·.2)
  len : L.length ≤ i
theorem Brought.next {ks L L' : List (Addr × κ)} {i : Nat} {p : Addr × κ} (g : Brought ks i L) (hp : ks[i]? = some p) (c1 : p.2 ∈ L.map (·.2) → L' = L) (c2 : p.2 ∉ L.map (·.2) → L'.Perm (p :: L)) : Brought ks (i + 1) L' := by
  by_cases c : p.2 ∈ L.map (·.2)
  · rw [c1 c]
    refine ⟨g.sub, fun j hj q hq => ?_, Nat.le_succ_of_le g.len⟩
    by_cases e : j = i
    · subst e
      rw [hp] at hq
      rw [← Option.some.inj hq]; exact c
    · exact g.all j (by omega) q hq
  · have pm := c2 c
    refine ⟨fun q hq => ?_, fun j hj q hq => ?_, by rw [pm.length_eq]; exact Nat.succ_le_succ g.len⟩
    · rcases List.mem_cons.mp (pm.mem_iff.mp hq) with e | h
      · rw [e]; exact List.mem_of_getElem? hp
      · exact g.sub q h
    · rw [(pm.map (·.2)).mem_iff, List.map_cons]
      by_cases e : j = i
      · subst e
        rw [hp] at hq
        rw [← Option.some.inj hq]; exact List.mem_cons_self
      · exact List.mem_cons_of_mem _ (g.all j (by omega) q hq)
theorem SetG.at (m : Mem knd) {h h' : Heap} (R : SetG knd h a L es ep t) (ha : ∀ o, h.get? a = some o → h'.get? a = some o) (hm : ∀ p ∈ L, knd.is h' p.2 p.1) : SetG knd h' a L es ep t := by
  obtain ⟨o, ho, r⟩ := R.ob
  exact ⟨⟨o, ha o ho, r⟩, R.rows, R.tab, R.nd, hm, R.led, R.few, R.msk⟩
theorem setG_new {h : Heap} (ho : h.get? a = some { cls := .type "set", dict := none, data := .set #[] 0 (.fresh 0 0 (!w.params.followText "set-order")) }) : SetG knd h a [] #[] 0 (.fresh 0 0 (!w.params.followText "set-order")) :=
  { ob := ⟨_, ho, ⟨rfl, rfl, rfl⟩, rfl⟩
    rows := rfl
    tab := { ris := List.Pairwise.nil, dm := rfl, sz := rfl, mok := Or.inl rfl, bd := fun _ h => absurd h (by simp [SetTable.fresh]), reach := fun i h j hi => by simp at hi }
    nd := List.nodup_nil
    mem := fun _ h => absurd h (by simp)
    led := by
      show _ ∨ (!w.params.followText "set-order") = true
      cases w.params.followText "set-order"
      · exact Or.inr rfl
      · exact Or.inl rfl
    few := Nat.zero_le _
    msk := rfl }
theorem brings (m : Mem knd) {I : Addr} {fp wr : List Addr} {G : Array GenState → Array GenState → Prop} {n : Nat} {Pv : Nat → Value → Prop} {St : Nat → Shared → Prop} {R : Result → Shared → Prop} (W : WalksS P w A.in1 I fp wr G n Pv St) {S : Addr} (hS : S ∉ fp)
    {ks : List (Addr × κ)} (hn : n = ks.length) (few : ks.length ≤ 4) (val : ∀ i v, Pv i v → ∃ p, ks[i]? = some p ∧ v = .ref p.1) {h0 : Heap} (mem0 : ∀ p ∈ ks, knd.is h0 p.2 p.1) (S0 : h0.get? S = none) (w0 : ∀ b ∈ wr, h0.get? b = none) (hu : A.in1.units < cLine)
    (fin : ∀ s' L es ep t, (∀ b o, h0.get? b = some o → s'.heap.get? b = some o) → SetG knd s'.heap S L es ep t → Brought ks n L → ∀ s0, Moved (S :: wr) G s0 s' → s0 = s → R (.ok (.ret .none)) s') :
    ∀ (k i : Nat) (s1 : Shared), n - i = k → i ≤ n → St i s1 → (∀ b o, h0.get? b = some o → s1.heap.get? b = some o) → (∃ L es ep t, SetG knd s1.heap S L es ep t ∧ Brought ks i L) → Moved (S :: wr) G s s1 →
      codeAny (model P w) A (.builtin "set.update.loop" ⟨[.ref S, .ref I], []⟩) R s1 := by
  have Sw : S ∉ wr := fun h => hS (W.sub _ h)
  have kept : ∀ {s1 s2 : Shared}, Moved wr G s1 s2 → (∀ b o, h0.get? b = some o → s1.heap.get? b = some o) → ∀ b o, h0.get? b = some o → s2.heap.get? b = some o := fun hm hk b o e => hm.heap b o (fun hb => by rw [w0 b hb] at e; cases e) (hk b o e)
  have wide : ∀ {s1 s2 : Shared}, Moved wr G s1 s2 → Moved (S :: wr) G s1 s2 := fun hm => hm.mono fun b hb => List.mem_cons_of_mem _ hb
  intro k
  induction k with
  | zero =>
    intro i s1 hk hi st h1 ⟨L, es, ep, t, R1, g⟩ mv
    obtain rfl : i = n := by omega
    refine codeAny_builtin F.entry_set_update_loop ?_
    rw [Around.under_plainId F.plain_set_update_loop _]
    refine wpAny_bind (m := pyNext (.ref I)) (W.done s1 _ _ st fun s2 hm => ?_)
    exact wpAny_pure (fin s2 L es ep t (kept hm h1) (R1.at m (fun o e => hm.heap S o Sw e) fun p hp => m.more (mem0 p (g.sub p hp)) (kept hm h1)) g _ (Moved.trans W.gtrans mv (wide hm)) rfl)
  | succ k ih =>
    intro i s1 hk hi st h1 ⟨L, es, ep, t, R1, g⟩ mv
    refine codeAny_builtin F.entry_set_update_loop ?_
    rw [Around.under_plainId F.plain_set_update_loop _]
    refine wpAny_bind (m := pyNext (.ref I)) (W.item i s1 _ _ (by omega) st fun v s2 hP st2 hm => ?_)
    obtain ⟨p, hp, rfl⟩ := val i v hP
    have h2 := kept hm h1
    have mem2 : ∀ q ∈ ks, knd.is s2.heap q.2 q.1 := fun q hq => m.more (mem0 q hq) h2
    refine wpAny_bind (m := holding [Value.ref p.1] (setAdd S (.ref p.1))) (wpAny_holding ?_)
    unfold setAdd
    refine wpAny_holding (wpAny_bind (knd.pyHash (m.room hu) (mem2 p (List.mem_of_getElem? hp)) ?_))
    refine SetG.add (s := { s2 with toks := s2.toks + knd.draws p.2 }) m (R1.at m (fun o e => hm.heap S o Sw e) fun q hq => mem2 q (g.sub q hq)) (mem2 p (List.mem_of_getElem? hp)) hu (by have := g.len; omega) fun b h3 L3 es3 ep3 t3 sb R3 c1 c2 => ?_
    have h3k : ∀ b o, h0.get? b = some o → h3.get? b = some o := fun b o e => (sb.2 b (fun z => by rw [z, S0] at e; cases e)).trans (h2 b o e)
    refine wpAny_pure ⟨plainId_quiet F.plain_set_update_loop _, ih (i + 1) _ (by omega) (by omega) (W.frame _ s2 _ _ st2 (Nat.le_add_right _ _) fun b hb o e => ?_) h3k ⟨L3, es3, ep3, t3, R3, g.next hp c1 c2⟩ ?_⟩
    · rw [sb.2 b (fun e => hS (e ▸ hb))]; exact e
    · refine Moved.trans W.gtrans mv ((wide hm).then_heap (Nat.le_add_right _ _) fun b o hb e => ?_)
      rw [sb.2 b (fun e => hb (by rw [e]; exact List.mem_cons_self))]; exact e
abbrev set0 (w : World) : Obj := { cls := .type "set", dict := none, data := .set #[] 0 (.fresh 0 0 (!w.params.followText "set-order")) }
abbrev itOf (l : Addr) : Obj := { cls := .type "list_iterator", data := .fields #[.ref l, .int 0 0] }
set_option maxHeartbeats 8000000 in
theorem call_set_by {l : Addr} {items : Array Value} {post : Heap → Nat → Prop} {Q : Value → Shared → Prop} (hl : s.heap.IsList l items)
    (turns : ∀ R : Result → Shared → Prop, (∀ h' tk, post h' tk → R (.ok (.ret .none)) { s with heap := h', toks := tk }) →
      codeAny (model P w) A.in1.in1 (.builtin "set.update.loop" ⟨[.ref s.heap.objs.size, .ref (s.heap.push (set0 w)).objs.size], []⟩) R { s with heap := (s.heap.push (set0 w)).push (itOf l) })
    (hQ : ∀ h' tk, post h' tk → Q (.ref s.heap.objs.size) { s with heap := h', toks := tk }) : wpAny (model P w) A (call (.type "set") [.ref l]) Q E s := by
  obtain ⟨c, tl, hmro⟩ := F.called_set.mro
  have made := F.called_set.made
  have sub := F.called_set.sub
  have nt := F.called_set.notType
  have cc := F.called_set.canCreate
  have tc := F.typeCall_set_1 (.ref l)
  have li := F.called_set.init.lookup
  have bi := F.called_set.init.bind (.ref s.heap.objs.size)
  refine wpAny_call (codeAny_of_tree ?_)
  show wpAny _ _ (callAny (.type "set") _) _ _ _
  refine wpAny_pure ⟨Code.quiet_builtin _ (by decide +kernel), codeAny_builtin F.entry_type_call ?_⟩
  rw [Around.under_plain (weight_type_call_type "set" [.ref l] []) rfl]
  repeat (any_goals (first | assumption | wp_step))
  refine codeAny_mono (code_set_led1 (.ref l) (E := E) (Q₁ := fun obj s₁ => obj = .ref s.heap.objs.size ∧ s₁ = { s with heap := s.heap.push (set0 w) }) ⟨rfl, rfl⟩) fun r s₁ hr => ?_
  rcases r with e | fl
  · exact hr
  cases fl with
  | ret obj =>
    obtain ⟨rfl, rfl⟩ := hr
    have atS : (s.heap.push (set0 w)).get? s.heap.objs.size = some (set0 w) := Heap.get?_push_size _ rfl
    have isS : Shared.TypeIs { s with heap := s.heap.push (set0 w) } (.ref s.heap.objs.size) "set" := ⟨_, atS, rfl⟩
    repeat (any_goals (first | assumption | wp_step))
    refine codeAny_mono (codeAny_call_builtin (R := wants (fun r s₂ => r = .none ∧ ∃ h' tk, s₂ = { s with heap := h', toks := tk } ∧ post h' tk) E) F.called_set.init.plain F.entry_set_init (check_set_init_1 isS ?_)) fun r₂ s₂ hr₂ => ?_
    · obtain ⟨⟨c0, d0, data0, sl0⟩, ho, hc, nl, hd⟩ := hl
      simp only at hc hd
      subst hc
      subst hd
      have isL : (s.heap.push (set0 w)).IsList l items := ⟨_, Heap.get?_push_of_some _ ho, rfl, nl, rfl⟩
      have atL := Heap.get?_push_of_some (set0 w) ho
      have s1 := F.sub_list_set
      have s2 := F.sub_list_frozenset
      have s3 : (Value.type "list" == Value.type "dict") = false := by decide
      unfold Builtin.«set.__init__» noKeywords Builtin.Frozenset.updateFrom
      generalize hPI : pyIter = PI
      wp_walk
      subst hPI
      refine wpAny_pyIter_list isL (wpAny_bind (wpAny_runValue (turns _ fun h' tk p => ?_)))
      show wpAny _ _ _ _ _ _
      refine wpAny_pure ?_
      show wpAny _ _ (ret Value.none) _ _ _
      exact wpAny_pure ⟨rfl, h', tk, rfl, p⟩
    · rcases r₂ with e | fl₂
      · exact hr₂
      cases fl₂ with
      | ret r =>
        obtain ⟨rfl, h', tk, rfl, p⟩ := hr₂
        repeat (any_goals (first | assumption | wp_step))
        exact hQ h' tk p
      | _ => exact hr₂.elim
  | _ => exact hr.elim
end
end
end
end AP

namespace AP
noncomputable section
open PySem PySem.Spec PyProof.Rows L2
open PySem.W (EachIs)
section
variable {κ : Type} [DecidableEq κ] {P : Program} {w : World} {knd : HeapKind P w κ} {A : Around} {E : Value → Shared → Prop} {s : Shared} {a : Addr} {L : List (Addr × κ)} {es : Array (Int × Value)} {ep : Nat} {t : SetTable}
theorem call_setG (m : Mem knd) {l : Addr} {items : Array Value} (ks : List (Addr × κ)) {Q : Value → Shared → Prop} (hh : A.handled = none) (hl : s.heap.IsList l items) (hit : items.toList = ks.map fun p => Value.ref p.1)
    (mem : ∀ p ∈ ks, knd.is s.heap p.2 p.1) (few : ks.length ≤ 4) (hu : A.units + 3 < cLine)
    (h : ∀ (h' : Heap) (tk : Nat) L es ep t, SetG knd h' s.heap.objs.size L es ep t → Brought ks ks.length L → (∀ b o, s.heap.get? b = some o → h'.get? b = some o) → Q (.ref s.heap.objs.size) { s with heap := h', toks := tk }) :
    wpAny (model P w) A (call (.type "set") [.ref l]) Q E s := by
  have size : items.size = ks.length := by simpa using congrArg List.length hit
  refine call_set_by hl (post := fun h' tk => ∃ L es ep t, SetG knd h' s.heap.objs.size L es ep t ∧ Brought ks ks.length L ∧ ∀ b o, s.heap.get? b = some o → h'.get? b = some o) (fun R hR => ?_) fun h' tk ⟨L, es, ep, t, R, g, k⟩ => h h' tk L es ep t R g k
  have low : l < s.heap.objs.size := by obtain ⟨_, q, _⟩ := hl; exact Heap.lt_size q
  have far : (s.heap.push (set0 w)).objs.size = s.heap.objs.size + 1 := Heap.size_push ..
  have free : ∀ b, s.heap.objs.size ≤ b → s.heap.get? b = none := fun b hb => by
    cases q : s.heap.get? b with
    | none => rfl
    | some o => exact absurd (Nat.lt_of_lt_of_le (Heap.lt_size q) hb) (Nat.lt_irrefl _)
  have hne : l ≠ (s.heap.push (set0 w)).objs.size := by rw [far]; exact Nat.ne_of_lt (Nat.lt_succ_of_lt low)
  have hh3 : A.in1.in1.in1.handled = none := by simp [hh]
  refine brings (A := A.in1.in1) m ((Walks.list hh3 _ l hne items).toS) (S := s.heap.objs.size) (by rw [far]; simp only [List.mem_cons, List.not_mem_nil, or_false, not_or]; exact ⟨Nat.ne_of_lt (Nat.lt_succ_self _), Nat.ne_of_gt low⟩) size few (fun i v hv => ?_) (h0 := s.heap) mem (free _ (Nat.le_refl _))
    (fun b hb => free b (by rw [List.mem_singleton.mp hb, far]; exact Nat.le_succ _)) (by show A.units + 1 + 1 + 1 < cLine; omega) ?_ (items.size - 0) 0 _ rfl (Nat.zero_le _) ⟨⟨_, Heap.get?_push_size _ rfl, rfl, rfl⟩, (hl.push _).push _⟩
    (fun b o e => Heap.get?_push_of_some _ (Heap.get?_push_of_some _ e)) ⟨[], #[], 0, _, setG_new (Heap.get?_push_of_some _ (Heap.get?_push_size _ rfl)), ⟨fun _ h => absurd h (by simp), fun j hj => absurd hj (Nat.not_lt_zero _), Nat.le_refl _⟩⟩ (Moved.refl fun _ => rfl)
  · have q : items.toList[i]? = some v := by rw [Array.getElem?_toList]; exact hv
    rw [hit, List.getElem?_map] at q
    obtain ⟨p, hp, e⟩ := Option.map_eq_some_iff.mp q
    exact ⟨p, hp, e.symm⟩
  · rintro ⟨h', g', d', tk', os'⟩ L es ep t keep R g s0 mv rfl
    have eg : g' = s.gens := mv.gens
    have ed : d' = s.drawn := mv.drawn
    have eo : os' = s.os := mv.os
    subst eg; subst ed; subst eo
    exact hR h' tk' ⟨L, es, ep, t, R, by rw [← size]; exact g, keep⟩
theorem perm_map_inv {α β : Type} {f : α → β} {vs us : List β} (h : vs.Perm us) : ∀ L : List α, us = L.map f → ∃ L1 : List α, L1.Perm L ∧ vs = L1.map f := by
  induction h with
  | nil => intro L e; cases L with
    | nil => exact ⟨[], .nil, rfl⟩
    | cons => cases e
  | cons x _ ih => intro L e; cases L with
    | nil => cases e
    | cons y L =>
      obtain ⟨L1, p, q⟩ := ih L (List.cons.inj e).2
      exact ⟨y :: L1, p.cons y, by rw [List.map_cons, ← q, (List.cons.inj e).1]⟩
  | swap x y l => intro L e; cases L with
    | nil => cases e
    | cons b L => cases L with
      | nil => cases e
      | cons c L =>
        obtain ⟨e1, e2⟩ := List.cons.inj e
        obtain ⟨e3, e4⟩ := List.cons.inj e2
        exact ⟨c :: b :: L, List.Perm.swap b c L, by rw [List.map_cons, List.map_cons, e1, e3, e4]⟩
  | trans _ _ ih1 ih2 =>
    intro L e
    obtain ⟨L2, p2, e2⟩ := ih2 L e
    obtain ⟨L1, p1, e1⟩ := ih1 L2 e2
    exact ⟨L1, p1.trans p2, e1⟩
theorem each_self {α : Type} (f : α → Value) : ∀ L : List α, EachIs (fun v q => v = f q) (L.map f) L
  | [] => .nil
  | _ :: L => .cons rfl (each_self f L)
theorem each_out {α : Type} {f : α → Value} : ∀ {vs : List Value} {L : List α}, EachIs (fun v q => v = f q) vs L → vs = L.map f
  | _, _, .nil => rfl
  | _, _, .cons h t => by rw [List.map_cons, ← each_out t, h]
theorem dataLe_pw {β : Type} (k : β → PyData) (l : List β) : (l.mergeSort (PySem.W.dataLe false k)).Pairwise fun a b => PySem.W.dataLt (k b) (k a) = false := by
  refine List.Pairwise.imp (fun {a b} h => ?_) (PySem.W.sort_pairwise (le := PySem.W.dataLe false k) (show PySem.W.TotalLe (PySem.W.dataLe false k) from PySem.W.sortLe_total (listOrd itemOrd) false fun b => PySem.W.keyToks (k b)) l)
  have e : (!PySem.W.dataLt (k b) (k a)) = true := h
  simpa using e
theorem sorted_setG (m : Mem knd) (R : SetG knd s.heap a L es ep t) (hh : A.handled = none) (enc : κ → PyData) (rd : ∀ h k b, knd.is h k b → Reads h (.ref b) (enc k) []) (hal : PySem.W.AllAlike (L.map fun p => enc p.2)) (hk : PySem.W.Sortable (L.map fun p => enc p.2))
    (hu : ∀ p ∈ L, A.units + 8 + (enc p.2).depth < cLine) {Q : Value → Shared → Prop}
    (hQ : ∀ s' p (c : Nat) (L' : List (Addr × κ)), (∀ b o, s.heap.get? b = some o → s'.heap.get? b = some o) → s'.gens = s.gens → s'.os = s.os → s.heap.objs.size ≤ p → s'.heap.get? p = some (seqObj "list" (L'.map fun q => Value.ref q.1).toArray c) →
      L'.Perm L → L'.Pairwise (fun q r => PySem.W.dataLt (enc r.2) (enc q.2) = false) → Q (.ref p) s') : wpAny (model P w) A (call (.builtin "sorted") [.ref a]) Q E s := by
  obtain ⟨o, ho, hex, hd⟩ := R.ob
  have small := R.few
  refine Calls.call_function_entry kind_sorted plain_sorted entry_sorted (args_sorted1 _) ?_
  unfold Builtin.«sorted»
  refine wpAny_bind (m := checkCount "sorted" 1 1 _) (wpAny_pure (wpAny_bind (collect_set (A := A.in1) hh ⟨o, ho, hex.1, hd⟩ R.fits (by rw [R.len]; unfold scanBound; omega) R.tab.ris R.led fun s1 vs k1 hz g1 o1 pm => ?_)))
  rw [R.rows, List.map_map] at pm
  obtain ⟨L1, p1, rfl⟩ := perm_map_inv pm L rfl
  have len1 : L1.length ≤ 4 := by rw [p1.length_eq]; exact small
  refine wpAny_bind (wpAny_newList ?_ (by rw [List.length_map, sizeLine_eq]; omega))
  have mem1 : ∀ q ∈ L1, q ∈ L := fun q hq => p1.mem_iff.mp hq
  have at_ : (s1.heap.push (seqObj "list" (L1.map fun q => Value.ref q.1).toArray 0)).get? s1.heap.objs.size = some (seqObj "list" (L1.map fun q => Value.ref q.1).toArray 0) := Heap.get?_push_size _ rfl
  have er : EachIs (fun v q => ∃ as, Reads (s1.heap.push (seqObj "list" (L1.map fun q => Value.ref q.1).toArray 0)) v (enc q.2) as ∧ s1.heap.objs.size ∉ as) (L1.map fun q => Value.ref q.1) L1 := by
    have go : ∀ L2 : List (Addr × κ), (∀ q ∈ L2, q ∈ L) → EachIs (fun v q => ∃ as, Reads (s1.heap.push (seqObj "list" (L1.map fun q => Value.ref q.1).toArray 0)) v (enc q.2) as ∧ s1.heap.objs.size ∉ as) (L2.map fun q => Value.ref q.1) L2 := by
      intro L2
      induction L2 with
      | nil => exact fun _ => .nil
      | cons q L2 ih => exact fun h => .cons ⟨[], rd _ _ _ (m.more (R.mem q (h q List.mem_cons_self)) fun b u e => Heap.get?_push_of_some _ (k1 b u e)), by simp⟩ (ih fun r hr => h r (List.mem_cons_of_mem _ hr))
    exact go L1 mem1
  have sub : ∀ d ∈ L1.map (fun p => enc p.2), d ∈ L.map fun p => enc p.2 := fun d hd => (p1.map _).mem_iff.mp hd
  refine wpAny_bind (wpAny_holding (PySem.W.list_sort_data (s := { s1 with heap := s1.heap.push (seqObj "list" (L1.map fun q => Value.ref q.1).toArray 0) }) (enc := fun q : Addr × κ => enc q.2) (bs := L1) at_ (each_self (fun q : Addr × κ => Value.ref q.1) L1) er (fun d hd e he => hal d (sub d hd) e (sub e he)) ?_ (by rw [sizeLine_eq]; omega) (fun q hq => ?_) fun out _ eo => ?_))
  · rcases hk with h | h
    · exact .inl fun d hd => h d (sub d hd)
    · exact .inr fun d hd => h d (sub d hd)
  · have := hu q (mem1 q hq)
    show A.units + 1 + 1 + _ < _
    omega
  · have e2 := each_out eo
    subst e2
    obtain ⟨c, hc⟩ := sortedHeap_at (vs := L1.map fun q => Value.ref q.1) (out := ((L1.mergeSort (PySem.W.dataLe false fun q : Addr × κ => enc q.2)).map fun q => Value.ref q.1).toArray) at_
    refine wpAny_pure ⟨_, rfl, hQ _ s1.heap.objs.size c _ (fun b u e => ?_) g1 o1 hz hc ((List.mergeSort_perm _ _).trans p1) (dataLe_pw (fun q : Addr × κ => enc q.2) L1)⟩
    have q := k1 b u e
    have lt := Heap.lt_size q
    show (sortedHeap _ _ _ _).get? b = some u
    rw [sortedHeap_old (Nat.ne_of_lt lt) (by rw [size_push']; exact Nat.lt_succ_of_lt lt)]
    exact Heap.get?_push_of_some _ q
end
end
end AP

namespace AP
noncomputable section
open PySem PySem.Spec PyProof.Rows L2
section
variable {P : Program} {w : World}
abbrev TxK (P : Program) (w : World) : HeapKind P w (List Str) := tupleKind (PySem.strKind P w)
theorem items_txt {k : List Str} {vs : List Value} (h : ItemsAre (PySem.strKind P w) k vs) : ∀ v ∈ vs, ∃ x t, v = Value.str x t := by
  induction h with
  | nil => exact fun v hv => absurd hv (by simp)
  | @cons k0 v' ks vs h1 _ ih =>
    intro v hv
    rcases List.mem_cons.mp hv with rfl | hv
    · obtain ⟨t, e⟩ := Value.isStrOf_shape h1
      exact ⟨_, t, e⟩
    · exact ih v hv
theorem txMem : Mem (TxK P w) where
  stays := tupleKind_stays
  room := fun h => h
  cls := by
    intro A E s k b Q hk h
    have hT := IsTupleKey.typeIs hk
    obtain ⟨o, items, n, ho, _, hd, hi⟩ := hk
    unfold ofAClassStatement
    refine wpAny_bind (wpAny_typeOf hT ?_)
    dsimp only
    simp only [show (("tuple" : String) == "tuple") = true by decide, if_true, Bool.not_true, Bool.false_eq_true, if_false]
    try refine wpAny_bind (wpAny_pure ?_)
    try simp only [Bool.not_true, Bool.false_eq_true, if_false]
    show wpAny _ _ (seqItems? (.ref b) >>= _) _ _ s
    refine wpAny_bind (wpAny_seqItems ho hd ?_)
    dsimp only
    refine wpAny_bind ?_
    show wpAny _ _ (forIn items _ _) _ _ s
    rw [← Array.forIn_toList]
    refine wpAny_forIn_list _ (fun rest r s' => r.1 = none ∧ s' = s ∧ ∀ v ∈ rest, ∃ x t, v = Value.str x t) _ ?_ ?_ _ _ ⟨rfl, rfl, items_txt hi⟩
    · rintro v rest r s' ⟨hr, rfl, all⟩
      obtain ⟨x, t, rfl⟩ := all v List.mem_cons_self
      rw [show ofAClassStatement 7 (.str x t) = pure false from rfl]
      refine wpAny_bind (wpAny_pure ?_)
      simp only [Bool.false_eq_true, if_false]
      exact wpAny_pure ⟨rfl, rfl, fun u hu' => all u (List.mem_cons_of_mem _ hu')⟩
    · rintro ⟨r1, r2⟩ s' ⟨hr, rfl, _⟩
      simp only at hr
      subst hr
      exact wpAny_pure h
  byv := by
    intro A E s k b Q hk h
    have hT := IsTupleKey.typeIs hk
    obtain ⟨o, items, n, ho, _, hd, hi⟩ := hk
    unfold hashByValue
    refine wpAny_bind (wpAny_specialOf hT F.slot_tuple_hash.lookup ?_)
    show wpAny _ _ (seqItems? (.ref b) >>= _) _ _ s
    refine wpAny_bind (wpAny_seqItems ho hd ?_)
    refine wpAny_bind ?_
    show wpAny _ _ (forIn items _ _) _ _ s
    rw [← Array.forIn_toList]
    have all := items_txt hi
    revert all
    cases items.toList with
    | nil =>
      intro _
      rw [List.forIn_nil]
      exact wpAny_pure (wpAny_pure (h true))
    | cons v rest =>
      intro all
      obtain ⟨x, t, rfl⟩ := all v List.mem_cons_self
      rw [List.forIn_cons, show hashByValue 7 (.str x t) = pure false from rfl]
      refine wpAny_bind (wpAny_bind (wpAny_pure ?_))
      simp only [Bool.not_false, if_true]
      exact wpAny_pure (wpAny_pure (wpAny_pure (h false)))
def Set0 (P : Program) (w : World) (h : Heap) (a : Addr) (L : List (Addr × List Str)) : Prop := ∃ (es : Array (Int × Value)) (ep : Nat) (t : SetTable), (∃ o, h.get? a = some o ∧ o.ExactSet ∧ o.data = .set es ep t) ∧ es.toList = L.map (rowG (TxK P w)) ∧ TabOk t (L.map (hashG (TxK P w))) ∧ (L.map (·.2)).Nodup ∧
  (w.params.followText "set-order" = true ∨ t.led = true) ∧ L.length ≤ 4 ∧ t.mask = 7
def SetGO (P : Program) (w : World) (a : Addr) (L : List (Addr × List Str)) : HO := .ext fun h => Set0 P w h a L
theorem setG_lies {H : Hp} {h : Heap} {a : Addr} {L : List (Addr × List Str)} (R : Set0 P w h a L) : ObjOk P w H h a (SetGO P w a L) := by
  obtain ⟨es, ep, t, ⟨o, ho, r⟩, q⟩ := id R
  refine ⟨R, ⟨o, ho⟩, fun h1 h2 x k => ?_⟩
  obtain ⟨es', ep', t', ⟨o', ho', r'⟩, q'⟩ := x
  exact ⟨es', ep', t', ⟨o', k o' ho', r'⟩, q'⟩
theorem items_of_txt : ∀ {k : List Str} {us : List Value}, Vals (k.map V.str) us → ItemsAre (PySem.strKind P w) k us
  | [], _, .nil => .nil
  | x :: k, _, .cons r t => by
    obtain ⟨u, rfl⟩ := r
    exact .cons (show Value.isStrOf x (.str x u) = true by simp [Value.isStrOf]) (items_of_txt t)
theorem reads_txt {h : Heap} : ∀ {k : List Str} {us : List Value}, ItemsAre (PySem.strKind P w) k us → ReadsAll h us (k.map .str) []
  | [], _, .nil => .nil
  | x :: k, _, .cons (v := v) r t => by
    obtain ⟨u, rfl⟩ := Value.isStrOf_shape r
    exact .cons (as := []) (bs := []) (.str x u) (reads_txt t)
theorem tx_reads (h : Heap) (k : List Str) (b : Addr) (x : (TxK P w).is h k b) : Reads h (.ref b) (.tuple (k.map .str)) [] := by
  obtain ⟨o, items, n, ho, hc, hd, hi⟩ := x
  exact .tuple ho hc hd (reads_txt hi)
section
variable {X : Cx}
theorem is_tx {pins : List (Addr × Obj)} {σ : L2.St} {H : Hp} {s : Shared} {b : Addr} {k : List Str} (I : Inv X pins σ H s) (h : SqT X.K H b (k.map V.str)) : (TxK X.prog X.w).is s.heap k b := by
  obtain ⟨its, r, ⟨o, ho, hc, n, hd⟩, _⟩ := I.tuple h
  exact ⟨o, its.toArray, n, ho, hc, hd, by simpa using items_of_txt r⟩
theorem refs_out : ∀ {ks : List (Addr × List Str)} {us : List Value}, Vals (ks.map fun p => V.ref p.1) us → us = ks.map fun p => Value.ref p.1
  | [], _, .nil => rfl
  | p :: ks, _, .cons r t => by
    cases r
    rw [refs_out t, List.map_cons]
theorem refs_in : ∀ ks : List (Addr × List Str), Vals (ks.map fun p => V.ref p.1) (ks.map fun p => Value.ref p.1)
  | [] => .nil
  | _ :: ks => .cons rfl (refs_in ks)
def rSetG (K : PySem.W.Frag) (P : Program) (w : World) : List V → Hp → VK → Prop := fun xs H Q => ∃ (l : Addr) (ks : List (Addr × List Str)), xs = [V.ref l] ∧ SqL K H l (ks.map fun p => V.ref p.1) ∧ (∀ p ∈ ks, SqT K H p.1 (p.2.map V.str)) ∧ ks.length ≤ 4 ∧
  ∀ a L, H a = none → (∀ p ∈ L, p ∈ ks) → (∀ p ∈ ks, p.2 ∈ L.map (·.2)) → (L.map (·.2)).Nodup → Q (.ref a) (upd H a (SetGO P w a L))
theorem cr_setG (hc : X.calm = true) (hu : X.A.units + 64 < cLine) : CallR X (.type "set") (rSetG X.K X.prog X.w) := by
  intro pins s σ H xs us Q I r h
  obtain ⟨l, ks, rfl, hl, hk, hf, q⟩ := h
  rw [Vals.ref1 r]
  obtain ⟨its, rv, pl, hz⟩ := I.list hl
  refine call_setG (knd := TxK X.prog X.w) txMem ks (I.ok.hd hc) pl.isList (by simpa using refs_out rv) (fun p hp => is_tx I (hk p hp)) hf (by omega) fun h' tk L es ep t R g k => ?_
  refine ⟨.ref s.heap.objs.size, upd H s.heap.objs.size (SetGO X.prog X.w s.heap.objs.size L), I.laid (t' := tk) k (Nat.le_refl _) (setG_lies ⟨es, ep, t, R.ob, R.rows, R.tab, R.nd, R.led, R.few, R.msk⟩), rfl, q _ L (I.hok.fresh (Nat.le_refl _)) g.sub (fun p hp => ?_) R.nd⟩
  obtain ⟨j, hj, e⟩ := List.getElem_of_mem hp
  exact g.all j hj p (by rw [List.getElem?_eq_getElem hj, e])
def rSortG (K : PySem.W.Frag) (P : Program) (w : World) : List V → Hp → VK → Prop := fun vs H Q => ∃ (a : Addr) (L : List (Addr × List Str)), vs = [V.ref a] ∧ H a = some (SetGO P w a L) ∧ (∀ p ∈ L, SqT K H p.1 (p.2.map V.str)) ∧ (∀ p ∈ L, p.2 ≠ []) ∧
  ∀ (L' : List (Addr × List Str)) (p : Addr), L'.Perm L → L'.Pairwise (fun q r => PySem.W.dataLt (.tuple (r.2.map .str)) (.tuple (q.2.map .str)) = false) → H p = none → Q (.ref p) (upd H p (.lst (L'.map fun q => V.ref q.1)))
theorem alike_txt : ∀ xs ys : List Str, PySem.W.alikeAll (xs.map .str) (ys.map .str) = true
  | [], _ => by simp [PySem.W.alikeAll]
  | _ :: _, [] => by simp [PySem.W.alikeAll]
  | x :: xs, y :: ys => by
    rw [List.map_cons, List.map_cons, PySem.W.alikeAll, alike_txt xs ys]
    simp [PySem.W.alike]
theorem depth_txt : ∀ xs : List Str, PyData.depthAll (xs.map .str) = 0
  | [] => by simp [PyData.depthAll]
  | x :: xs => by
    rw [List.map_cons, PyData.depthAll, depth_txt xs]
    simp [PyData.depth]
theorem cr_sortG (hc : X.calm = true) (hu : X.A.units + 64 < cLine) : CallR X (.builtin "sorted") (rSortG X.K X.prog X.w) := by
  intro pins s σ H vs us Q I r h
  obtain ⟨a, L, rfl, ha, hk, ne, q⟩ := h
  obtain ⟨es, ep, t, h1, h2, h3, h4, h5, h6, h7⟩ : Set0 X.prog X.w s.heap a L := (I.hok a _ ha).1
  have R : SetG (TxK X.prog X.w) s.heap a L es ep t := ⟨h1, h2, h3, h4, fun p hp => is_tx I (hk p hp), h5, h6, h7⟩
  rw [Vals.ref1 r]
  refine sorted_setG txMem R (I.ok.hd hc) (fun k => .tuple (k.map .str)) tx_reads (PySem.W.AllAlike.of (enc := fun p : Addr × List Str => .tuple (p.2.map .str)) fun b b' => by simp [PySem.W.alike, alike_txt]) (.inl fun d hd => ?_) (fun p _ => ?_) fun s' p c L' k g o hp hg pm pw => ?_
  · obtain ⟨b, hb, rfl⟩ := List.mem_map.mp hd
    cases e : b.2 with
    | nil => exact absurd e (ne b hb)
    | cons x r => exact ⟨.str x, r.map .str, by simp only [e, List.map_cons]⟩
  · have : (PyData.tuple (p.2.map .str)).depth ≤ 2 := by simp [PyData.depth, depth_txt]
    omega
  · have len : (L'.map fun q => V.ref q.1).length ≤ sizeLine := by
      have := R.few
      rw [List.length_map, pm.length_eq, sizeLine_eq]
      omega
    have J : Inv X pins σ (upd H p (.lst (L'.map fun q => V.ref q.1))) { s with heap := s'.heap, gens := s'.gens, drawn := s'.drawn, toks := s'.toks } :=
      I.call (ch := []) (Un.laid k hp (I.hok.fresh hp)) (I.hok.laid k hp ⟨len, _, c, refs_in L', hg⟩) (by rw [g]; exact I.bare) (fun _ z => nomatch z)
    have e : s' = { s with heap := s'.heap, gens := s'.gens, drawn := s'.drawn, toks := s'.toks } := by
      cases s'
      cases s
      cases o
      rfl
    rw [e]
    exact ⟨.ref p, _, J, rfl, q L' p pm pw (I.hok.fresh hp)⟩
end
end
end
end AP

namespace AP
noncomputable section
open PySem PySem.Spec PyProof.Rows L2 RZ
section
variable [Tbls] [Gd]
abbrev encT (k : List Str) : D := .tuple (k.map .str)
def eqN : List Nat → List Nat → Bool
  | [], [] => true
  | x :: xs, y :: ys => Nat.beq x y && eqN xs ys
  | _, _ => false
theorem eqN_ok : ∀ {xs ys : List Nat}, eqN xs ys = true → xs = ys
  | [], [], _ => rfl
  | x :: xs, y :: ys, h => by
    simp only [eqN, Bool.and_eq_true] at h
    rw [Nat.eq_of_beq_eq_true h.1, eqN_ok h.2]
  | [], _ :: _, h => by simp [eqN] at h
  | _ :: _, [], h => by simp [eqN] at h
def eqT : List Str → List Str → Bool
  | [], [] => true
  | x :: xs, y :: ys => eqN x.cps.toList y.cps.toList && eqT xs ys
  | _, _ => false
theorem eqT_ok : ∀ {xs ys : List Str}, eqT xs ys = true → xs = ys
  | [], [], _ => rfl
  | x :: xs, y :: ys, h => by
    simp only [eqT, Bool.and_eq_true] at h
    rw [PySem.W.str_of_cps (eqN_ok h.1), eqT_ok h.2]
  | [], _ :: _, h => by simp [eqT] at h
  | _ :: _, [], h => by simp [eqT] at h
def insT (k : List Str) : List (List Str) → List (List Str)
  | [] => [k]
  | y :: r => if PySem.W.dataLt (encT k) (encT y) = true then k :: y :: r else if PySem.W.dataLt (encT y) (encT k) = true then y :: insT k r else y :: r
theorem insT_sub {k x : List Str} : ∀ {l : List (List Str)}, x ∈ insT k l → x = k ∨ x ∈ l
  | [], h => .inl (by simpa [insT] using h)
  | y :: r, h => by
    unfold insT at h
    split at h
    · simpa using h
    · split at h
      · rcases List.mem_cons.mp h with e | h
        · exact .inr (by simp [e])
        · rcases insT_sub h with e | e
          · exact .inl e
          · exact .inr (List.mem_cons_of_mem _ e)
      · exact .inr h
def sortT : List (List Str) → List (List Str)
  | [] => []
  | k :: r => insT k (sortT r)
theorem sortT_sub {x : List Str} : ∀ {l : List (List Str)}, x ∈ sortT l → x ∈ l
  | [], h => by simp [sortT] at h
  | k :: r, h => by
    rcases insT_sub (show x ∈ insT k (sortT r) from h) with e | e
    · simp [e]
    · exact List.mem_cons_of_mem _ (sortT_sub e)
def pwT : List (List Str) → Bool
  | [] => true
  | k :: r => r.all (fun y => PySem.W.dataLt (encT k) (encT y) && !PySem.W.dataLt (encT y) (encT k)) && pwT r
theorem pwT_ok : ∀ {l : List (List Str)}, pwT l = true → l.Pairwise fun a b => PySem.W.dataLt (encT a) (encT b) = true ∧ PySem.W.dataLt (encT b) (encT a) = false
  | [], _ => .nil
  | k :: r, h => by
    simp only [pwT, Bool.and_eq_true, List.all_eq_true, Bool.not_eq_true'] at h
    exact .cons h.1 (pwT_ok h.2)
theorem pwT_two : ∀ {l : List (List Str)}, pwT l = true → ∀ a ∈ l, ∀ b ∈ l, PySem.W.dataLt (encT a) (encT b) = false → PySem.W.dataLt (encT b) (encT a) = false → a = b
  | [], _, a, ha, _, _, _, _ => absurd ha (by simp)
  | k :: r, h, a, ha, b, hb, h1, h2 => by
    have q := h
    simp only [pwT, Bool.and_eq_true, List.all_eq_true] at q
    rcases List.mem_cons.mp ha with e1 | e1 <;> rcases List.mem_cons.mp hb with e2 | e2
    · rw [e1, e2]
    · have z := (q.1 b e2).1
      rw [e1] at h1
      rw [h1] at z
      cases z
    · have z := (q.1 a e1).1
      rw [e2] at h2
      rw [h2] at z
      cases z
    · exact pwT_two q.2 a e1 b e2 h1 h2
theorem sortT_one {ys tk zs : List (List Str)} (h1 : pwT ys = true) (h2 : ∀ y ∈ ys, y ∈ tk) (h3 : ∀ k ∈ tk, k ∈ ys) (n : zs.Nodup) (m : ∀ z, z ∈ zs ↔ z ∈ tk) (pw : zs.Pairwise fun a b => PySem.W.dataLt (encT b) (encT a) = false) : zs = ys := by
  have ny : ys.Nodup := (pwT_ok h1).imp fun {a b} h e => by
    rw [e] at h
    rw [h.1] at h
    exact absurd h.2 (by simp)
  have pm : zs.Perm ys := (List.perm_ext_iff_of_nodup n ny).mpr fun z => ⟨fun h => h3 z ((m z).mp h), fun h => (m z).mpr (h2 z h)⟩
  exact List.Perm.eq_of_pairwise (fun a b ha hb r1 r2 => pwT_two h1 a (pm.mem_iff.mp ha) b hb r2 r1) pw ((pwT_ok h1).imp fun h => h.2) pm
def txsOf : List D → Option (List (List Str))
  | [] => some []
  | .tuple ds :: r => (match strsOf ds with
    | some k => (match txsOf r with
      | some l => some (k :: l)
      | none => none)
    | none => none)
  | _ :: _ => none
theorem txsOf_ok {Z : Zs} {H : Hp} : ∀ {xs : List V} {ds : List D} {tk : List (List Str)}, RpA Z H xs ds → txsOf ds = some tk → ∃ ks : List (Addr × List Str), xs = ks.map (fun p => V.ref p.1) ∧ ks.map (·.2) = tk ∧ ∀ p ∈ ks, Rp Z H (.ref p.1) (encT p.2)
  | _, _, _, .nil, e => by simp only [txsOf] at e; cases e; exact ⟨[], rfl, rfl, fun _ h => absurd h (by simp)⟩
  | _, _, _, .cons (d := d) (ds := ds) h r, e => by
    cases d with
    | tuple us =>
      simp only [txsOf] at e
      split at e
      · rename_i k hk
        split at e
        · rename_i l hl
          cases e
          obtain ⟨ks, rfl, e2, e3⟩ := txsOf_ok r hl
          cases h with
          | tup z ha ra =>
            rename_i a xs
            obtain ⟨rfl, rfl⟩ := strsOf_ok ra hk
            refine ⟨(a, k) :: ks, rfl, by rw [List.map_cons, e2], fun p hp => ?_⟩
            rcases List.mem_cons.mp hp with rfl | hp
            · exact .tup z ha ra
            · exact e3 p hp
        · cases e
      · cases e
    | _ => simp [txsOf] at e
def neT : List (List Str) → Bool
  | [] => true
  | [] :: _ => false
  | (_ :: _) :: r => neT r
theorem neT_ok : ∀ {l : List (List Str)}, neT l = true → ∀ k ∈ l, k ≠ []
  | [], _, k, h => absurd h (by simp)
  | [] :: _, e, _, _ => by simp [neT] at e
  | (x :: y) :: r, e, k, h => by
    rcases List.mem_cons.mp h with rfl | h
    · simp
    · exact neT_ok (show neT r = true from e) k h
def gSetT (tk : List (List Str)) : Option D :=
  if Nat.ble tk.length 4 && (neT tk && (pwT (sortT tk) && tk.all fun k => (sortT tk).any fun y => eqT k y)) then some (.list ((sortT tk).map encT)) else none
def gSS : List D → Option D
  | [.list ds] => (match txsOf ds with
    | some tk => gSetT tk
    | none => none)
  | _ => none
def rSS (K : PySem.W.Frag) (P : Program) (w : World) : List V → Hp → VK → Prop := fun xs H Q => rSetG K P w xs H fun v H1 => rSortG K P w [v] H1 Q
theorem rpA_refs {Z : Zs} {H : Hp} : ∀ {L : List (Addr × List Str)}, (∀ p ∈ L, Rp Z H (.ref p.1) (encT p.2)) → RpA Z H (L.map fun p => V.ref p.1) ((L.map (·.2)).map encT)
  | [], _ => .nil
  | _ :: _, h => .cons (h _ List.mem_cons_self) (rpA_refs fun p hp => h p (List.mem_cons_of_mem _ hp))
theorem sq_of {Z : Zs} {H : Hp} {K : PySem.W.Frag} {a : Addr} {k : List Str} (h : Rp Z H (.ref a) (encT k)) : SqT K H a (k.map V.str) := by
  cases h with
  | tup z ha ra =>
    have e : strsOf (k.map PyData.str) = some k := by
      clear ra ha
      induction k with
      | nil => rfl
      | cons x k ih => simp only [List.map_cons, strsOf, ih]
    obtain ⟨rfl, _⟩ := strsOf_ok ra e
    exact ha.sq
theorem rc_SS {K : PySem.W.Frag} {P : Program} {w : World} : RCD (rSS K P w) gSS := by
  intro Z H hz vs ds d r e Q q
  unfold gSS at e
  split at e
  · rename_i ds
    split at e
    · rename_i tk ht
      unfold gSetT at e
      split at e
      · rename_i hc
        cases e
        simp only [Bool.and_eq_true, List.all_eq_true, List.any_eq_true] at hc
        obtain ⟨c1, c2, c3, c4⟩ := hc
        cases r with
        | cons h t =>
          cases t
          obtain ⟨l, xs, rfl, hl, ra⟩ := h
          obtain ⟨ks, rfl, e2, e3⟩ := txsOf_ok ra ht
          refine ⟨l, ks, rfl, SqL.of hl, fun p hp => sq_of (e3 p hp), ?_, fun a L ha sub all nd => ?_⟩
          · have := Nat.le_of_ble_eq_true c1
            rw [← e2, List.length_map] at this
            exact this
          · have n1 : New H (upd H a (SetGO P w a L)) := New.upd ha
            have e4 : ∀ p ∈ L, Rp Z (upd H a (SetGO P w a L)) (.ref p.1) (encT p.2) := fun p hp => (e3 p (sub p hp)).new n1
            have key : ∀ p ∈ L, p.2 ∈ tk := fun p hp => by rw [← e2]; exact List.mem_map.mpr ⟨p, sub p hp, rfl⟩
            refine ⟨a, L, rfl, upd_same, fun p hp => sq_of (e4 p hp), fun p hp => neT_ok c2 p.2 (key p hp), fun L' p pm pw hp => ?_⟩
            have e5 : L'.map (·.2) = sortT tk := by
              refine sortT_one c3 (fun y hy => sortT_sub hy) (fun k hk => ?_) ((pm.map (·.2)).nodup_iff.mpr nd) (fun z => ⟨fun hz => ?_, fun hz => ?_⟩) (List.pairwise_map.mpr pw)
              · obtain ⟨y, hy, ey⟩ := c4 k hk
                rw [eqT_ok ey]; exact hy
              · obtain ⟨p, hp, rfl⟩ := List.mem_map.mp hz
                exact key p (pm.mem_iff.mp hp)
              · rw [← e2] at hz
                obtain ⟨p, hp, rfl⟩ := List.mem_map.mp hz
                exact (pm.map (·.2)).mem_iff.mpr (all p hp)
            have pa : p ≠ a := fun e => by rw [e, upd_same] at hp; cases hp
            have hp0 : H p = none := by rw [upd_ne pa] at hp; exact hp
            have n2 : New (upd H a (SetGO P w a L)) (upd (upd H a (SetGO P w a L)) p (.lst (L'.map fun q => V.ref q.1))) := New.upd hp
            refine q _ _ (n1.trans n2) (.lst (fresh_nz hz hp0) upd_same ?_)
            rw [← e5]
            exact rpA_refs fun r hr => (e4 r (pm.mem_iff.mp hr)).new n2
      · cases e
    · cases e
  · cases e
theorem sn_sortSet {K : PySem.W.Frag} {P : Program} {w : World} {ta : TA} {a : AM} (ha : SnA ta a) : Sn (tCB (rSortG K P w) (tCons (tCB (rSetG K P w) ta) tNil)) (mCB gSS a) := show Sn (tCB (rSS K P w) ta) (mCB gSS a) from sn_cb rc_SS ha
end
end
end AP

namespace AP
noncomputable section
open PySem PySem.Spec PyProof.Rows L2 RZ
section
variable [Tbls] [Gd]
theorem ext_tup (l : Addr) (items : Array Value) (n : Nat) (b : Addr) (items2 : Array Value) (n2 : Nat) (d : Option Addr) (sl : Array (Option Value)) (h0 : ¬(!items.isEmpty && Builtin.List.listTooLong (items.size + items2.size)) = true) (h1 : items.size ≤ sizeLine) (h2 : items.size + items2.size ≤ sizeLine + 1) :
    Meets (Builtin.«list.extend» ⟨[.ref l, .ref b], []⟩) (fun _ R s => s.heap.get? l = some { cls := .type "list", dict := none, data := .seq items n, slots := #[] } ∧ s.heap.get? b = some { cls := .type "tuple", dict := d, data := .seq items2 n2, slots := sl } ∧ R (.ok (.ret Value.none)) { s with heap := s.heap.update l (Obj.mapSeq fun x => x ++ items2), toks := s.toks }) :=
  .of_wp fun prog w A R s h => by
    obtain ⟨hp, g, dd, tk, os⟩ := s
    obtain ⟨hl, hb, h⟩ := h
    have f1 := sub_tuple_tuple
    have f2 := sub_list_list
    have f3 := sub_tuple_list
    have f4 := sub_list_tuple
    have hz : (items ++ items2).size ≤ sizeLine + 1 := by rw [Array.size_append]; exact h2
    wp_walk using (wpAny_updateSeq hl rfl (hz := h1) (_hz' := hz)), wpAny_loadPart' hl, wpAny_loadPart' hb
    exact ⟨_, rfl, h⟩
def rExtT (K : PySem.W.Frag) : V → List V → Hp → VK → Prop := fun x vs H Q => ∃ l b xs zs, x = .ref l ∧ vs = [.ref b] ∧ H l = some (.lst xs) ∧ SqT K H b zs ∧ xs.length + zs.length ≤ sizeLine ∧ Q .non (upd H l (.lst (xs ++ zs)))
def rExtU (K : PySem.W.Frag) : V → List V → Hp → VK → Prop := fun x vs H Q => rExtend x vs H Q ∨ rExtT K x vs H Q
theorem mt_extU {X : Cx} : MtM X "list.extend" (rExtU X.K) := by
  intro pins s σ H x vs v us Q I rx rv h
  rcases h with h | h
  · exact mt_extend pins s σ H x vs v us Q I rx rv h
  · obtain ⟨l, b, xs, zs, rfl, rfl, hH, hB, hz, q⟩ := h
    cases rx
    obtain ⟨u, rfl, ru⟩ := rv.one
    cases ru
    obtain ⟨z, its, n, r, hl, e⟩ := I.lstM hH
    obtain ⟨its2, r2, ⟨⟨c, d, data, sl⟩, ho, hc, n2, hd⟩, _⟩ := I.tuple hB
    simp only at hc hd
    subst hc
    subst hd
    have len2 := r2.length
    have hsz : its.toArray.size + its2.toArray.size ≤ sizeLine := by rw [List.size_toArray, List.size_toArray]; omega
    refine call_meets F.slot_list_extend ⟨_, e, rfl⟩ F.entry_list_extend (F.args_list_extend_2 _ _)
      (ext_tup l its.toArray n b its2.toArray n2 d sl (by rw [notLongL hsz, Bool.and_false]; exact Bool.false_ne_true) (by rw [List.size_toArray]; omega) (by omega)) ⟨e, ho, ?_⟩
    refine ⟨.non, _, I.lset (its' := its ++ its2) hH e (by simp) (r.append r2) ?_, rfl, q⟩
    rw [List.length_append]
    omega
def mExtU (a b : EM) : SM := fun s => match a s with
  | some (.m k, o1) => (match o1[k]? with
    | some (.l _) => (match b (s.on o1) with
      | some (.d (.tuple es), o2) => (match o2[k]? with
        | some (.l ds) => if ds.length + es.length ≤ 100000 then some (.nx (s.on (o2.set k (.l (ds ++ es))))) else none
        | _ => none)
      | some (y, o2) => (match vw o2 y, o2[k]? with
        | some (.list es), some (.l ds) => if ds.length + es.length ≤ 100000 then some (.nx (s.on (o2.set k (.l (ds ++ es))))) else none
        | _, _ => none)
      | _ => none)
    | _ => none)
  | _ => none
theorem ss_extU {K : PySem.W.Frag} {ta tb : TE} {a b : EM} (ha : Sn ta a) (hb : Sn tb b) : SnS (tDrop (tBM K "list" (rExtU K) ta (tCons tb tNil))) (mExtU a b) := by
  intro Z M s σ H h out e E f
  unfold mExtU at e
  split at e
  · rename_i k o1 ea
    refine ha Z M s σ H h _ _ ea _ fun M1 v1 H1 ⟨e1, _⟩ h1 r1 => ?_
    obtain ⟨p, hp, rfl⟩ := r1
    split at e
    · rename_i ds1 hk1
      obtain ⟨xs1, hx1, _⟩ := h1.r.ob k p _ hp hk1
      split at e
      · rename_i es o2 eb
        split at e
        · rename_i ds hk
          split at e
          · rename_i hl
            cases e
            refine ⟨.inl ⟨rfl, _, SqL.of hx1⟩, ?_⟩
            refine hb Z M1 (s.on o1) σ H1 h1 _ _ eb _ fun M2 v2 H2 ⟨e2, _⟩ h2 r2 => ?_
            have hp2 := e2.at hp
            obtain ⟨xs, hx, rx⟩ := h2.r.ob k p _ hp2 hk
            have r3 : Rp (zz Z M2) H2 v2 (.tuple es) := r2
            cases r3 with
            | tup z ht rz =>
              rename_i l2 zs
              refine .inr ⟨p, l2, xs, zs, rfl, rfl, hx, ht.sq, by rw [rx.length, rz.length]; exact small_line hl, ?_⟩
              obtain ⟨g1, g2⟩ := own_mut (ob := .lst (xs ++ zs)) (r := .l (ds ++ es)) h2 hp2 ⟨_, rfl, rx.append rz⟩
              exact f M2 σ _ ((e1.trans e2).trans g2) g1
          · cases e
        · cases e
      · rename_i y o2 _ eb
        split at e
        · rename_i es ds hy hk
          split at e
          · rename_i hl
            cases e
            refine ⟨.inl ⟨rfl, _, SqL.of hx1⟩, ?_⟩
            refine hb Z M1 (s.on o1) σ H1 h1 _ _ eb _ fun M2 v2 H2 ⟨e2, _⟩ h2 r2 => ?_
            have hp2 := e2.at hp
            obtain ⟨xs, hx, rx⟩ := h2.r.ob k p _ hp2 hk
            obtain ⟨l2, zs, rfl, hz2, rz⟩ := vw_ok h2.r r2 hy
            refine .inl ⟨p, l2, xs, zs, rfl, rfl, hx, hz2, by rw [rx.length, rz.length]; exact small_line hl, ?_⟩
            obtain ⟨g1, g2⟩ := own_mut (ob := .lst (xs ++ zs)) (r := .l (ds ++ es)) h2 hp2 ⟨_, rfl, rx.append rz⟩
            exact f M2 σ _ ((e1.trans e2).trans g2) g1
          · cases e
        · cases e
      · cases e
    · cases e
  · cases e
def tSS (K : PySem.W.Frag) (ta : TA) : TE := fun σ H Q => ∀ (P : Program) (w : World), tCB (rSortG K P w) (tCons (tCB (rSetG K P w) ta) tNil) σ H Q
theorem pe_tSS {X : Cx} {e : Expr} {ta : TA} (h : PE X e (tCB (rSortG X.K X.prog X.w) (tCons (tCB (rSetG X.K X.prog X.w) ta) tNil))) : PE X e (tSS X.K ta) := ⟨fun pins s σ H Q I q => h.run pins s σ H Q I (q X.prog X.w)⟩
theorem sn_tSS {K : PySem.W.Frag} {ta : TA} {a : AM} (ha : SnA ta a) : Sn (tSS K ta) (mCB gSS a) := fun Z M s σ H h r o' e Q q P w => sn_sortSet ha Z M s σ H h r o' e Q q
end
end
end AP

namespace AP
noncomputable section
open PySem PySem.Spec PyProof.Rows L2 RZ
section
variable [Tbls] [Gd]
def partB : List SV → Option (List (D ⊕ Nat))
  | [] => some []
  | .d x :: r => (match partB r with
    | some l => some (.inl x :: l)
    | none => none)
  | .m k :: r => (match partB r with
    | some l => some (.inr k :: l)
    | none => none)
  | _ :: _ => none
theorem partB_ok {Z : Zs} {M : List Addr} {H : Hp} : ∀ {vs : List V} {xs : List SV} {l : List (D ⊕ Nat)}, RvA Z M H vs xs → partB xs = some l → RvB Z M H vs l
  | _, _, _, .nil, e => by simp only [partB] at e; cases e; exact .nil
  | _, _, _, .cons (x := x) h t, e => by
    cases x with
    | d x =>
      simp only [partB] at e
      split at e
      · rename_i l hl
        cases e
        exact .d h (partB_ok t hl)
      · cases e
    | m k =>
      simp only [partB] at e
      split at e
      · rename_i l hl
        cases e
        obtain ⟨a, ha, rfl⟩ := h
        exact .m ha (partB_ok t hl)
      · cases e
    | w u => simp [partB] at e
    | q _ _ => simp [partB] at e
    | t _ => simp [partB] at e
def mTupR (a : AM) : EM := fun s => match a s with
  | none => none
  | some (xs, o1) => match partB xs with
    | none => none
    | some l => if l.length ≤ 100 then some (.t l, o1) else none
theorem RvB.length {Z : Zs} {M : List Addr} {H : Hp} : ∀ {vs : List V} {xs : List (D ⊕ Nat)}, RvB Z M H vs xs → vs.length = xs.length
  | _, _, .nil => rfl
  | _, _, .d _ t => by simp [RvB.length t]
  | _, _, .m _ t => by simp [RvB.length t]
theorem sn_tupR {ta : TA} {a : AM} (ha : SnA ta a) : Sn (tTupF ta) (mTupR a) := by
  intro Z M s σ H h w o' e Q q
  unfold mTupR at e
  split at e
  · cases e
  · rename_i xs o1 ea
    refine ha Z M s σ H h _ _ ea _ fun M1 vs H1 e1 h1 r1 => ?_
    split at e
    · cases e
    · rename_i l hd
      split at e
      · rename_i hl
        cases e
        have r2 := partB_ok r1 hd
        refine ⟨small_line (by rw [r2.length]; omega), fun p ob hp ho => ?_⟩
        have n := New.upd (o := .frz ob (.tup vs)) hp
        exact q M1 _ _ (e1.trans (Ex2.new n)) (h1.new n) ⟨p, vs, rfl, fresh_nz h1.r.zzd hp, TupAt.new ho, (Ext.new n).rvB r2⟩
      · cases e
end
end
end AP

namespace AP
noncomputable section
open PySem PySem.Spec PyProof.Rows L2
section
variable {P : Program} {w : World} {A : Around} {E : Value → Shared → Prop} {s : Shared}
theorem alive_any {a : Addr} {Q : Option Obj → Shared → Prop} (h : Q (s.heap.get? a) s) : wpAny (model P w) A (loadIfAlive a) Q E s := fun _ _ _ => h
abbrev ZipF (h : Heap) (z TI TO : Addr) (f0 : Value) (f : Bool) : Prop := h.get? z = some { cls := .type "zip", dict := none, data := .fields #[f0, .bool f, .bool false, .ref TI, .ref TO], slots := #[] }
def OutOk (f0 : Value) : Prop := f0 = .none ∨ ∃ T : Addr, f0 = rawInt T
theorem zip_asks {z TI TO : Addr} {f0 : Value} {f : Bool} {Q : Bool → Shared → Prop} (hz : ZipF s.heap z TI TO f0 f) (h0 : OutOk f0) (free : Q true s) (held : f0 ≠ .none → ∀ h', ZipF h' z TI TO f0 true → Heap.SameBut z s.heap h' → Q false { s with heap := h' }) :
    wpAny (model P w) A (Builtin.SmallTypes.ownedTupleIsFree (.ref z)) Q E s := by
  unfold Builtin.SmallTypes.ownedTupleIsFree
  rcases h0 with rfl | ⟨T, rfl⟩
  · exact wpAny_bind (wpAny_field hz rfl (x := .none) rfl (wpAny_pure free))
  · replace held := held (fun q => nomatch q)
    refine wpAny_bind (wpAny_field hz rfl (x := rawInt T) rfl ?_)
    show wpAny _ _ (loadIfAlive ((T : Int).toNat) >>= _) _ _ _
    refine wpAny_bind (alive_any ?_)
    cases s.heap.get? ((T : Int).toNat) with
    | none =>
      simp only [Option.isNone_none, if_true]
      exact wpAny_pure free
    | some o =>
      simp only [Option.isNone_some, Bool.false_eq_true, if_false]
      refine wpAny_bind (wpAny_field hz rfl (x := .bool f) rfl ?_)
      cases f with
      | true =>
        rw [if_neg (show ¬ ((Value.bool true != Value.bool true) = true) from Bool.false_ne_true)]
        exact wpAny_pure (held s.heap hz (Heap.SameBut.refl _ _))
      | false =>
        rw [if_pos (show (Value.bool false != Value.bool true) = true from rfl)]
        exact wpAny_bind (wpAny_setField_rec hz (by simp) fun h1 z1 s1 => wpAny_pure (held h1 z1 s1))
variable {z TI TO i1 i2 : Addr} {f0 : Value} {f : Bool} {a b : Value} {fp1 fp2 : List Addr} {n1 n2 i : Nat} {P1 P2 : Nat → Value → Prop} {S1 S2 : Nat → Heap → Prop}
structure ApartZ (z TI TO i1 i2 : Addr) (fp1 fp2 : List Addr) : Prop where
  TIz : TI ≠ z
  TOz : TO ≠ z
  TITO : TI ≠ TO
  z1 : z ∉ fp1
  z2 : z ∉ fp2
  TO1 : TO ∉ fp1
  TO2 : TO ∉ fp2
  TI1 : TI ≠ i1
  TI2 : TI ≠ i2
  i12 : i1 ∉ fp2
  i21 : i2 ∉ fp1
  m1 : i1 ∈ fp1
  m2 : i2 ∈ fp2
theorem ApartZ.i1z (D : ApartZ z TI TO i1 i2 fp1 fp2) : i1 ≠ z := fun e => D.z1 (e ▸ D.m1)
theorem ApartZ.i2z (D : ApartZ z TI TO i1 i2 fp1 fp2) : i2 ≠ z := fun e => D.z2 (e ▸ D.m2)
theorem ApartZ.TOi1 (D : ApartZ z TI TO i1 i2 fp1 fp2) : TO ≠ i1 := fun e => D.TO1 (e ▸ D.m1)
theorem ApartZ.TOi2 (D : ApartZ z TI TO i1 i2 fp1 fp2) : TO ≠ i2 := fun e => D.TO2 (e ▸ D.m2)
theorem stays_but {S : Nat → Heap → Prop} {fp : List Addr} {it c : Addr} {n j : Nat} {Pv : Nat → Value → Prop} {h h' : Heap} (D : Draws P w A it fp n Pv S) (st : S j h) (hc : c ∉ fp) (e : Heap.ExtBut c h h') : S j h' := D.frame j h h' st fun b hb o q => e b o (fun z => hc (z ▸ hb)) q
theorem zip_turn {Q : Value → Shared → Prop} (D : ApartZ z TI TO i1 i2 fp1 fp2) (D1 : Draws P w A i1 fp1 n1 P1 S1) (D2 : Draws P w A i2 fp2 n2 P2 S2) (hz : ZipF s.heap z TI TO f0 f) (h0 : OutOk f0) (hTI : IsPair s.heap TI (.ref i1) (.ref i2)) (hTO : IsPair s.heap TO a b)
    (h1 : S1 i s.heap) (h2 : S2 i s.heap) (lt1 : i < n1) (lt2 : i < n2)
    (hQ : ∀ x y h' tk f0' f' a' b', P1 i x → P2 i y → ZipF h' z TI TO f0' f' → OutOk f0' → (f0 = .none → f0' = rawInt s.heap.objs.size ∧ f' = false) → IsPair h' TO a' b' → S1 (i + 1) h' → S2 (i + 1) h' → IsPair h' s.heap.objs.size x y → h'.objs.size = s.heap.objs.size + 1 →
      (∀ c o, c ≠ z → c ≠ TO → c ≠ i1 → c ≠ i2 → s.heap.get? c = some o → h'.get? c = some o) → Q (.ref s.heap.objs.size) { s with heap := h', toks := tk }) :
    wpAny (model P w) A (Builtin.«zip.__next__» ⟨[.ref z], []⟩) (fun fin s' => ∃ v, fin = .done (.ret v) ∧ Q v s') E s := by
  refine wpAny_bind (m := field (.ref z) 2) (wpAny_field hz rfl (x := .bool false) rfl ?_)
  refine wpAny_bind (m := field (.ref z) 3) (wpAny_field hz rfl (x := .ref TI) rfl (wpAny_bind (wpAny_seqItems hTI rfl ?_)))
  refine wpAny_bind (m := Builtin.SmallTypes.ownedTupleIsFree (.ref z)) (zip_asks hz h0 ?_ fun nn g1 z1 s1 => ?_)
  · simp only [if_true]
    refine wpAny_bind (wpAny_rule (wpAny_bind (wpAny_field hz rfl (x := .ref TO) rfl (wpAny_bind (wpAny_setField_rec hz (by simp) fun g1 z1 s1 => wpAny_bind ?_)))))
    replace z1 : ZipF g1 z TI TO .ellipsis f := z1
    simp only [List.zipIdx_cons, List.zipIdx_nil, List.forIn_cons, List.forIn_nil]
    refine wpAny_bind (wpAny_bind (wpAny_onRaise ?_))
    refine wpAny_bind (m := Builtin.SmallTypes.nextOf (.ref i1)) (D1.item i { s with heap := g1 } _ _ lt1 (stays_but D1 h1 D.z1 s1.extBut) fun x g2 t2 px a2 s2 => wpAny_pure ?_)
    have p2 : IsPair g2 TO a b := s2.extBut _ _ D.TOi1 (s1.extBut _ _ D.TOz hTO)
    refine wpAny_bind (wpAny_seqItems (s := { s with heap := g2, toks := t2 }) p2 rfl (wpAny_bind (wpAny_updateSeq_pair (s := { s with heap := g2, toks := t2 }) p2 fun g3 p3 s3 => wpAny_bind (wpAny_letGo (wpAny_pure ?_)))))
    replace p3 : IsPair g3 TO x b := p3
    replace s3 : Heap.SameBut TO g2 g3 := s3
    refine wpAny_bind (wpAny_bind (wpAny_onRaise ?_))
    refine wpAny_bind (m := Builtin.SmallTypes.nextOf (.ref i2)) (D2.item i { s with heap := g3, toks := t2 } _ _ lt2 (stays_but D2 (stays_but D2 (stays_but D2 h2 D.z2 s1.extBut) D.i12 s2.extBut) D.TO2 s3.extBut) fun y g4 t4 py b4 s4 => wpAny_pure ?_)
    have p4 : IsPair g4 TO x b := s4.extBut _ _ D.TOi2 p3
    refine wpAny_bind (wpAny_seqItems (s := { s with heap := g4, toks := t4 }) p4 rfl (wpAny_bind (wpAny_updateSeq_pair (s := { s with heap := g4, toks := t4 }) p4 fun g5 p5 s5 => wpAny_bind (wpAny_letGo (wpAny_pure (wpAny_pure ?_))))))
    replace p5 : IsPair g5 TO x y := p5
    replace s5 : Heap.SameBut TO g4 g5 := s5
    replace s4 : Heap.SameBut i2 g3 g4 := s4
    refine wpAny_bind (wpAny_seqItems (s := { s with heap := g5, toks := t4 }) p5 rfl (wpAny_bind (wpAny_newTuple ?_)))
    have sz : g5.objs.size = s.heap.objs.size := by rw [s5.1, s4.1, s3.1, s2.1, s1.1]
    have z5 : ZipF g5 z TI TO .ellipsis f := s5.extBut _ _ D.TOz.symm (s4.extBut _ _ D.i2z.symm (s3.extBut _ _ D.TOz.symm (s2.extBut _ _ D.i1z.symm z1)))
    have old : ∀ c o, c ≠ z → c ≠ TO → c ≠ i1 → c ≠ i2 → s.heap.get? c = some o → g5.get? c = some o := fun c o c1 c2 c3 c4 e => s5.extBut _ _ c2 (s4.extBut _ _ c4 (s3.extBut _ _ c2 (s2.extBut _ _ c3 (s1.extBut _ _ c1 e))))
    have a5 : S1 (i + 1) g5 := stays_but D1 (stays_but D1 (stays_but D1 a2 D.TO1 s3.extBut) D.i21 s4.extBut) D.TO1 s5.extBut
    have b5 : S2 (i + 1) g5 := stays_but D2 b4 D.TO2 s5.extBut
    have zl : z < g5.objs.size := Heap.lt_size z5
    refine wpAny_bind (m := Builtin.SmallTypes.ownedTupleHandOut (.ref z) (.ref g5.objs.size)) ?_
    unfold Builtin.SmallTypes.ownedTupleHandOut
    have z6 : ZipF (g5.push { cls := .type "tuple", data := .seq #[x, y] }) z TI TO .ellipsis f := Heap.get?_push_of_some _ z5
    refine wpAny_bind (wpAny_setField_rec (s := { s with heap := g5.push { cls := .type "tuple", data := .seq #[x, y] }, toks := t4 }) z6 (by simp) fun g7 z7 s7 => ?_)
    replace z7 : ZipF g7 z TI TO (rawInt g5.objs.size) f := z7
    refine wpAny_setField_rec (s := { s with heap := g7, toks := t4 }) z7 (by simp) fun g8 z8 s8 => ?_
    replace z8 : ZipF g8 z TI TO (rawInt g5.objs.size) false := z8
    replace s7 : Heap.SameBut z (g5.push { cls := .type "tuple", data := .seq #[x, y] }) g7 := s7
    replace s8 : Heap.SameBut z g7 g8 := s8
    have up : ∀ c o, c ≠ z → g5.get? c = some o → g8.get? c = some o := fun c o c1 e => s8.extBut _ _ c1 (s7.extBut _ _ c1 (Heap.get?_push_of_some _ e))
    have pair : IsPair g8 g5.objs.size x y := s8.extBut _ _ (Nat.ne_of_gt zl) (s7.extBut _ _ (Nat.ne_of_gt zl) (Heap.get?_push_size _ rfl))
    have sz8 : g8.objs.size = g5.objs.size + 1 := by rw [s8.1, s7.1, Heap.size_push]
    refine wpAny_pure ⟨_, rfl, ?_⟩
    show Q (.ref g5.objs.size) _
    rw [sz] at pair sz8 ⊢
    rw [sz] at z8
    exact hQ x y g8 t4 _ _ x y px py z8 (.inr ⟨_, rfl⟩) (fun _ => ⟨rfl, rfl⟩) (up _ _ D.TOz p5) (D1.frame _ _ _ a5 fun c hc o e => up c o (fun q => D.z1 (q ▸ hc)) e) (D2.frame _ _ _ b5 fun c hc o e => up c o (fun q => D.z2 (q ▸ hc)) e) pair sz8 fun c o c1 c2 c3 c4 e => up c o c1 (old c o c1 c2 c3 c4 e)
  · simp only [Bool.false_eq_true, if_false]
    refine wpAny_bind ?_
    rw [← Array.forIn_toList]
    simp only [List.forIn_cons, List.forIn_nil]
    refine wpAny_bind (wpAny_bind (wpAny_holding ?_))
    refine wpAny_bind (m := Builtin.SmallTypes.nextOf (.ref i1)) (D1.item i { s with heap := g1 } _ _ lt1 (stays_but D1 h1 D.z1 s1.extBut) fun x g2 t2 px a2 s2 => wpAny_pure (wpAny_pure ?_))
    refine wpAny_bind (wpAny_bind (wpAny_holding ?_))
    refine wpAny_bind (m := Builtin.SmallTypes.nextOf (.ref i2)) (D2.item i { s with heap := g2, toks := t2 } _ _ lt2 (stays_but D2 (stays_but D2 h2 D.z2 s1.extBut) D.i12 s2.extBut) fun y g3 t3 py b3 s3 => wpAny_pure (wpAny_pure (wpAny_pure ?_)))
    replace s2 : Heap.SameBut i1 g1 g2 := s2
    replace s3 : Heap.SameBut i2 g2 g3 := s3
    refine wpAny_bind (m := newTuple [x, y]) (wpAny_newTuple ?_)
    have sz : g3.objs.size = s.heap.objs.size := by rw [s3.1, s2.1, s1.1]
    have z3 : ZipF g3 z TI TO f0 true := s3.extBut _ _ D.i2z.symm (s2.extBut _ _ D.i1z.symm z1)
    have old : ∀ c o, c ≠ z → c ≠ i1 → c ≠ i2 → s.heap.get? c = some o → g3.get? c = some o := fun c o c1 c2 c3 e => s3.extBut _ _ c3 (s2.extBut _ _ c2 (s1.extBut _ _ c1 e))
    have up : ∀ c o, g3.get? c = some o → (g3.push { cls := .type "tuple", data := .seq #[x, y] }).get? c = some o := fun c o e => Heap.get?_push_of_some _ e
    refine wpAny_pure ⟨_, rfl, ?_⟩
    show Q (.ref g3.objs.size) _
    have pair : IsPair (g3.push { cls := .type "tuple", data := .seq #[x, y] }) g3.objs.size x y := Heap.get?_push_size _ rfl
    have sz4 : (g3.push { cls := .type "tuple", data := .seq #[x, y] }).objs.size = g3.objs.size + 1 := Heap.size_push ..
    rw [sz] at pair sz4 ⊢
    exact hQ x y _ t3 f0 true a b px py (up _ _ z3) h0 (fun q => absurd q nn) (up _ _ (old _ _ D.TOz D.TOi1 D.TOi2 hTO)) (D1.frame _ _ _ (stays_but D1 a2 D.i21 s3.extBut) fun c _ o e => up c o e) (D2.frame _ _ _ b3 fun c _ o e => up c o e) pair sz4 fun c o c1 _ c3 c4 e => up c o (old c o c1 c3 c4 e)
theorem zip_stop {Q : PySem.Fin → Shared → Prop} (D : ApartZ z TI TO i1 i2 fp1 fp2) (D1 : Draws P w A i1 fp1 n1 P1 S1) (D2 : Draws P w A i2 fp2 n2 P2 S2) (hz : ZipF s.heap z TI TO f0 f) (h0 : OutOk f0) (hTI : IsPair s.heap TI (.ref i1) (.ref i2)) (hTO : IsPair s.heap TO a b)
    (h1 : S1 i s.heap) (h2 : S2 i s.heap) (fin : i = n1 ∨ (i < n1 ∧ i = n2))
    (hE : ∀ h' tk e, (∀ c o, c ≠ z → c ≠ TO → c ≠ i1 → c ≠ i2 → s.heap.get? c = some o → h'.get? c = some o) → (∃ o, h'.get? e = some o ∧ o.cls = .type "StopIteration") → E (.ref e) { s with heap := h', toks := tk }) :
    wpAny (model P w) A (Builtin.«zip.__next__» ⟨[.ref z], []⟩) Q E s := by
  have other : ∀ {g : Heap} {e : Addr} {v : Value} {b : Bool}, ZipF g z TI TO v b → (∃ o, g.get? e = some o ∧ o.cls = .type "StopIteration") → e ≠ z := by
    rintro g e v b hz ⟨o, ho, hc⟩ rfl
    rw [hz] at ho
    cases ho
    simp at hc
  refine wpAny_bind (m := field (.ref z) 2) (wpAny_field hz rfl (x := .bool false) rfl ?_)
  refine wpAny_bind (m := field (.ref z) 3) (wpAny_field hz rfl (x := .ref TI) rfl (wpAny_bind (wpAny_seqItems hTI rfl ?_)))
  refine wpAny_bind (m := Builtin.SmallTypes.ownedTupleIsFree (.ref z)) (zip_asks hz h0 ?_ fun nn g1 z1 s1 => ?_)
  · simp only [if_true]
    refine wpAny_bind (wpAny_rule (wpAny_bind (wpAny_field hz rfl (x := .ref TO) rfl (wpAny_bind (wpAny_setField_rec hz (by simp) fun g1 z1 s1 => wpAny_bind ?_)))))
    replace z1 : ZipF g1 z TI TO .ellipsis f := z1
    simp only [List.zipIdx_cons, List.zipIdx_nil, List.forIn_cons, List.forIn_nil]
    refine wpAny_bind (wpAny_bind (wpAny_onRaise ?_))
    have st1 := stays_but D1 h1 D.z1 s1.extBut
    refine wpAny_bind (m := Builtin.SmallTypes.nextOf (.ref i1)) ?_
    rcases fin with rfl | ⟨lt, rfl⟩
    · refine D1.done { s with heap := g1 } _ _ st1 fun g2 e s2 he => ?_
      have z2 : ZipF g2 z TI TO .ellipsis f := s2 _ _ D.i1z.symm z1
      have ne := other z2 he
      refine wpAny_setField_rec (s := { s with heap := g2 }) z2 (by simp) fun g3 _ s3 => hE g3 s.toks e (fun c o c1 _ c3 _ q => s3.extBut _ _ c1 (s2 _ _ c3 (s1.extBut _ _ c1 q))) ?_
      obtain ⟨o, ho, hc⟩ := he
      exact ⟨o, s3.extBut _ _ ne ho, hc⟩
    · refine D1.item i { s with heap := g1 } _ _ lt st1 fun x g2 t2 px a2 s2 => wpAny_pure ?_
      have p2 : IsPair g2 TO a b := s2.extBut _ _ D.TOi1 (s1.extBut _ _ D.TOz hTO)
      refine wpAny_bind (wpAny_seqItems (s := { s with heap := g2, toks := t2 }) p2 rfl (wpAny_bind (wpAny_updateSeq_pair (s := { s with heap := g2, toks := t2 }) p2 fun g3 p3 s3 => wpAny_bind (wpAny_letGo (wpAny_pure ?_)))))
      replace s3 : Heap.SameBut TO g2 g3 := s3
      refine wpAny_bind (wpAny_bind (wpAny_onRaise ?_))
      refine wpAny_bind (m := Builtin.SmallTypes.nextOf (.ref i2)) (D2.done { s with heap := g3, toks := t2 } _ _ (stays_but D2 (stays_but D2 (stays_but D2 h2 D.z2 s1.extBut) D.i12 s2.extBut) D.TO2 s3.extBut) fun g4 e s4 he => ?_)
      have z4 : ZipF g4 z TI TO .ellipsis f := s4 _ _ D.i2z.symm (s3.extBut _ _ D.TOz.symm (s2.extBut _ _ D.i1z.symm z1))
      have ne := other z4 he
      refine wpAny_setField_rec (s := { s with heap := g4, toks := t2 }) z4 (by simp) fun g5 _ s5 => hE g5 t2 e (fun c o c1 c2 c3 c4 q => s5.extBut _ _ c1 (s4 _ _ c4 (s3.extBut _ _ c2 (s2.extBut _ _ c3 (s1.extBut _ _ c1 q))))) ?_
      obtain ⟨o, ho, hc⟩ := he
      exact ⟨o, s5.extBut _ _ ne ho, hc⟩
  · simp only [Bool.false_eq_true, if_false]
    refine wpAny_bind ?_
    rw [← Array.forIn_toList]
    simp only [List.forIn_cons, List.forIn_nil]
    refine wpAny_bind (wpAny_bind (wpAny_holding ?_))
    have st1 := stays_but D1 h1 D.z1 s1.extBut
    refine wpAny_bind (m := Builtin.SmallTypes.nextOf (.ref i1)) ?_
    rcases fin with rfl | ⟨lt, rfl⟩
    · exact D1.done { s with heap := g1 } _ _ st1 fun g2 e s2 he => hE g2 s.toks e (fun c o c1 _ c3 _ q => s2 _ _ c3 (s1.extBut _ _ c1 q)) he
    · refine D1.item i { s with heap := g1 } _ _ lt st1 fun x g2 t2 px a2 s2 => wpAny_pure (wpAny_pure ?_)
      refine wpAny_bind (wpAny_bind (wpAny_holding ?_))
      exact wpAny_bind (m := Builtin.SmallTypes.nextOf (.ref i2)) (D2.done { s with heap := g2, toks := t2 } _ _ (stays_but D2 (stays_but D2 h2 D.z2 s1.extBut) D.i12 s2.extBut) fun g3 e s3 he => hE g3 t2 e (fun c o c1 _ c3 c4 q => s3 _ _ c4 (s2.extBut _ _ c3 (s1.extBut _ _ c1 q))) he)
end
end
end AP
namespace AP
noncomputable section
open PySem PySem.Spec PyProof.Rows L2
section
variable {P : Program} {w : World} {A : Around} {E : Value → Shared → Prop} {s : Shared} {e it : Addr} {c : Int} {old : Value}
end
end
end AP

namespace AP
noncomputable section
open PySem PySem.Spec PyProof.Rows L2
abbrev tupO (u v : Value) : Obj := { cls := .type "tuple", data := .seq #[u, v] }
theorem pair_ok {P : Program} {w : World} {H : Hp} {h : Heap} {T : Addr} {x y : V} {u v : Value} (hT : h.get? T = some (tupO u v)) (ru : RelV x u) (rv : RelV y v) : ObjOk P w H h T (.frz (tupO u v) (.tup [x, y])) :=
  ⟨hT, by show 2 ≤ sizeLine; decide, [u, v], .cons ru (.cons rv .nil), ⟨_, hT, rfl, _, rfl⟩⟩
def SqB : Bool → PySem.W.Frag → Hp → Addr → List V → Prop
  | true, K, H, a, xs => SqT K H a xs
  | false, K, H, a, xs => SqL K H a xs
def SeqB : Bool → Addr → Array Value → Heap → Prop
  | true, a, its, h => h.IsTuple a its
  | false, a, its, h => h.IsList a its
def StB : Bool → Addr → Addr → Array Value → Nat → Heap → Prop
  | true, it, a, its, i, h => h.IsTupleIter it a i ∧ h.IsTuple a its
  | false, it, a, its, i, h => h.IsListIter it a i ∧ h.IsList a its
def ItrB : Bool → Addr → Addr → Nat → Heap → Prop
  | true, it, a, i, h => h.IsTupleIter it a i
  | false, it, a, i, h => h.IsListIter it a i
def iterO : Bool → Addr → Obj
  | true, a => { cls := .type "tuple_iterator", data := .fields #[.ref a, .int 0 0] }
  | false, a => { cls := .type "list_iterator", data := .fields #[.ref a, .int 0 0] }
theorem drawsB {P : Program} {w : World} {A : Around} (hh : A.handled = none) (t : Bool) {it a : Addr} (ne : a ≠ it) (its : Array Value) : Draws P w A it [it, a] its.size (fun i v => its[i]? = some v) (StB t it a its) := by
  cases t with
  | true => exact Draws.tuple hh it a ne its
  | false => exact Draws.list hh it a ne its
theorem beginsB (t : Bool) (a : Addr) (its : Array Value) : Begins (.ref a) (iterO t a) (SeqB t a its) := by
  cases t with
  | true => exact begins_tuple a its
  | false => exact begins_list a its
section
variable {X : Cx} {pins : List (Addr × Obj)} {σ : L2.St} {H : Hp} {s : Shared} {t : Bool} {a it : Addr} {xs ys : List V}
theorem seqB (I : Inv X pins σ H s) (h : SqB t X.K H a xs) : ∃ its, Vals xs its ∧ SeqB t a its.toArray s.heap := by
  cases t with
  | true => obtain ⟨its, r, p, _⟩ := I.tuple h; exact ⟨its, r, p⟩
  | false => obtain ⟨its, r, p, _⟩ := I.list h; exact ⟨its, r, p.isList⟩
theorem injB (I : Inv X pins σ H s) (h : SqB t X.K H a xs) (h2 : SqB t X.K H a ys) : xs = ys := by
  cases t with
  | true => exact I.tuple_inj h h2
  | false => exact I.list_inj h h2
theorem SeqB.lt {its : Array Value} {h : Heap} (q : SeqB t a its h) : a < h.objs.size := by
  cases t with
  | true => obtain ⟨_, e, _⟩ := q; exact Heap.lt_size e
  | false => obtain ⟨_, e, _⟩ := q; exact Heap.lt_size e
theorem ItrB.get {i : Nat} {h : Heap} (q : ItrB t it a i h) : ∃ o, h.get? it = some o ∧ ∀ v, o.data ≠ .cell v := by
  cases t with
  | true => obtain ⟨o, e, _, d⟩ := q; exact ⟨o, e, fun v z => by rw [d] at z; cases z⟩
  | false => obtain ⟨o, e, _, d⟩ := q; exact ⟨o, e, fun v z => by rw [d] at z; cases z⟩
theorem ItrB.keep {i : Nat} {h h' : Heap} (q : ItrB t it a i h) (k : ∀ o, h.get? it = some o → h'.get? it = some o) : ItrB t it a i h' := by
  cases t with
  | true => exact Heap.IsTupleIter.at q fun o e => k o e
  | false => exact Heap.IsListIter.at q fun o e => k o e
theorem StB.of {i : Nat} {h : Heap} {its : Array Value} (q : ItrB t it a i h) (p : SeqB t a its h) : StB t it a its i h := by
  cases t with
  | true => exact ⟨q, p⟩
  | false => exact ⟨q, p⟩
theorem StB.itr {i : Nat} {h : Heap} {its : Array Value} (q : StB t it a its i h) : ItrB t it a i h := by
  cases t with
  | true => exact q.1
  | false => exact q.1
end
def ItZB (t1 t2 : Bool) (K : PySem.W.Frag) (a b : Addr) : It where
  go i H := ∃ (xs ys : List V) (x y : V), SqB t1 K H a xs ∧ SqB t2 K H b ys ∧ xs[i]? = some x ∧ ys[i]? = some y
  yld i H v H' := ∃ T x y, v = .ref T ∧ H T = none ∧ (∃ o : Obj, o.dict = none ∧ H' = upd H T (.frz o (.tup [x, y]))) ∧ (∀ xs, SqB t1 K H a xs → xs[i]? = some x) ∧ ∀ ys, SqB t2 K H b ys → ys[i]? = some y
  stop i H := ∃ xs ys : List V, SqB t1 K H a xs ∧ SqB t2 K H b ys ∧ i = min xs.length ys.length
def AtZB (t1 t2 : Bool) (a b z TI TO i1 i2 : Addr) (i : Nat) (h : Heap) : Prop := ZipF h z TI TO .none false ∧ IsPair h TI (.ref i1) (.ref i2) ∧ (∃ x y, IsPair h TO x y) ∧ ItrB t1 i1 a i h ∧ ItrB t2 i2 b i h
theorem fp5 {X : Cx} {pins : List (Addr × Obj)} {H : Hp} {c n : Nat} {o : HO} (h : FpOk X pins H c) (lt : c < n) : (upd H n o) c = none := by
  rw [upd_ne (Nat.ne_of_lt lt)]
  exact h.1
theorem turn_ZB {P : Program} {w : World} {K : PySem.W.Frag} {elts : List Expr} {kk : Nat} {tpos : Pos} {t1 t2 : Bool} {a b z TI TO i1 i2 : Addr} (D : ApartZ z TI TO i1 i2 [i1, a] [i2, b]) (n1 : a ≠ i1) (n2 : b ≠ i2) :
    Turn P w K (.Tuple elts kk tpos) (ItZB t1 t2 K a b) [z, TI, TO, i1, i2] z (AtZB t1 t2 a b z TI TO i1 i2) where
  mem := by simp
  obj := by
    rintro i h ⟨hz, hTI, ⟨x, y, hTO⟩, h1, h2⟩ c hc
    simp only [List.mem_cons, List.not_mem_nil, or_false] at hc
    rcases hc with rfl | rfl | rfl | rfl | rfl
    · exact ⟨_, hz, fun v q => nomatch q⟩
    · exact ⟨_, hTI, fun v q => nomatch q⟩
    · exact ⟨_, hTO, fun v q => nomatch q⟩
    · exact h1.get
    · exact h2.get
  keep := by
    rintro i h h' ⟨hz, hTI, ⟨x, y, hTO⟩, h1, h2⟩ k
    exact ⟨k z (by simp) _ hz, k TI (by simp) _ hTI, ⟨x, y, k TO (by simp) _ hTO⟩, h1.keep fun o q => k i1 (by simp) o q, h2.keep fun o q => k i2 (by simp) o q⟩
  item := by
    rintro X rfl rfl rfl hc i pins s σ H E I hf ⟨hz, hTI, ⟨x0, y0, hTO⟩, h1, h2⟩ ⟨xs, ys, x, y, hqx, hqy, hx, hy⟩
    obtain ⟨us, rv, p⟩ := seqB I hqx
    obtain ⟨vs, rv2, p2⟩ := seqB I hqy
    obtain ⟨u, hu, ru⟩ := rv.get hx
    obtain ⟨v, hv, rv⟩ := rv2.get hy
    have lt : ∀ c ∈ [z, TI, TO, i1, i2], c < s.heap.objs.size := by
      obtain ⟨_, q1, _⟩ := h1.get
      obtain ⟨_, q2, _⟩ := h2.get
      simp only [List.forall_mem_cons]
      exact ⟨Heap.lt_size hz, Heap.lt_size hTI, Heap.lt_size hTO, Heap.lt_size q1, Heap.lt_size q2, fun _ q => nomatch q⟩
    have hh : X.A.in1.handled = none := by simpa using I.ok.hd hc
    have lu : i < us.toArray.size := by
      have := (List.getElem?_eq_some_iff.mp hu).1
      simpa using this
    have lv : i < vs.toArray.size := by
      have := (List.getElem?_eq_some_iff.mp hv).1
      simpa using this
    have hT : s.TypeIs (.ref z) "zip" := ⟨_, hz, rfl⟩
    unfold pyNext
    refine wpAny_bind (wpAny_attempt (wpAny_callSpecial?_slot (name := Str.ofString "__next__") hT F.slot_zip_next (wpAny_call_entry F.slot_zip_next hT F.entry_zip_next
      (zip_turn (i := i) D (drawsB hh t1 n1 us.toArray) (drawsB hh t2 n2 vs.toArray) hz (.inl rfl) hTI hTO (StB.of h1 p) (StB.of h2 p2) lu lv fun x1 y1 g tk f0' f' a' b' px py c1 c2 c3 c4 c5 c6 c7 c8 c9 => wpAny_pure ?_) (F.args_zip_next_1 _))))
    obtain ⟨rfl, rfl⟩ := c3 rfl
    obtain rfl : x1 = u := Option.some.inj (px.symm.trans (by simpa using hu))
    obtain rfl : y1 = v := Option.some.inj (py.symm.trans (by simpa using hv))
    refine ⟨_, rfl, wpAny_letOwnedTupleGo_zip (s := { s with heap := g, toks := tk }) c1 fun g2 z2 sb => ?_⟩
    replace sb : Heap.SameBut z g g2 := sb
    have up : ∀ c o, c ≠ z → g.get? c = some o → g2.get? c = some o := fun c o h q => (sb.2 c h).trans q
    have nI : Inv X pins σ (upd H s.heap.objs.size (.frz (tupO x1 y1) (.tup [x, y]))) { s with heap := g2, toks := tk } := I.turnedNew (t' := tk) (ch := [z, TI, TO, i1, i2]) (fun c o hb q => by
      simp only [List.mem_cons, List.not_mem_nil, or_false, not_or] at hb
      exact up c o hb.1 (c9 c o hb.1 hb.2.2.1 hb.2.2.2.1 hb.2.2.2.2 q)) hf (Nat.le_refl _) (pair_ok (up _ _ (Nat.ne_of_gt (lt z (by simp))) c7) ru rv)
    refine ⟨.ref _, _, nI, rfl, ⟨_, x, y, rfl, I.hok.fresh (Nat.le_refl _), ⟨_, rfl, rfl⟩, fun l hl => by rw [injB I hl hqx]; exact hx, fun l hl => by rw [injB I hl hqy]; exact hy⟩,
      ⟨z2, up _ _ D.TIz (c9 _ _ D.TIz D.TITO D.TI1 D.TI2 hTI), ⟨a', b', up _ _ D.TOz c4⟩, c5.itr.keep fun o q => up _ o D.i1z q, c6.itr.keep fun o q => up _ o D.i2z q⟩, fun c hcm => fp5 (hf c hcm) (lt c hcm)⟩
  done := by
    rintro X rfl rfl rfl hc i pins s σ H E I hf ⟨hz, hTI, ⟨x0, y0, hTO⟩, h1, h2⟩ ⟨xs, ys, hqx, hqy, fin⟩
    obtain ⟨us, rv, p⟩ := seqB I hqx
    obtain ⟨vs, rv2, p2⟩ := seqB I hqy
    have l1 := rv.length
    have l2 := rv2.length
    have hh : X.A.in1.handled = none := by simpa using I.ok.hd hc
    have hT : s.TypeIs (.ref z) "zip" := ⟨_, hz, rfl⟩
    unfold pyNext
    refine wpAny_bind (wpAny_attempt (wpAny_callSpecial?_slot (name := Str.ofString "__next__") hT F.slot_zip_next (wpAny_call_entry F.slot_zip_next hT F.entry_zip_next
      (zip_stop (i := i) D (drawsB hh t1 n1 us.toArray) (drawsB hh t2 n2 vs.toArray) hz (.inl rfl) hTI hTO (StB.of h1 p) (StB.of h2 p2) (by simp only [List.size_toArray]; omega) fun g tk e k he => ?_) (F.args_zip_next_1 _))))
    obtain ⟨o, ho, hco⟩ := he
    refine wpAny_bind (wpAny_isInstance (T := "StopIteration") (b := true) ⟨o, ho, hco⟩ isSubtype_stop (wpAny_pure ⟨rfl, I.turnedL (t' := tk) (ch := [z, TI, TO, i1, i2]) (fun c o hb q => ?_) hf⟩))
    simp only [List.mem_cons, List.not_mem_nil, or_false, not_or] at hb
    exact k c o hb.1 hb.2.2.1 hb.2.2.2.1 hb.2.2.2.2 q
  self := fun A i s Q E st h => wpAny_pyIter_zip st.1 h
end
end AP
namespace AP
noncomputable section
open PySem PySem.Spec PyProof.Rows L2
section
variable {P : Program} {w : World} {A : Around} {E : Value → Shared → Prop} {s : Shared}
def zipHp (h : Heap) (o1 o2 : Obj) : Heap := ((((h.push o1).push o2).push { cls := .type "tuple", data := .seq #[.ref h.objs.size, .ref (h.push o1).objs.size] }).push { cls := .type "tuple", data := .seq #[.none, .none] }).push
  { cls := .type "zip", data := .fields #[.none, .bool false, .bool false, .ref ((h.push o1).push o2).objs.size, .ref (((h.push o1).push o2).push { cls := .type "tuple", data := .seq #[.ref h.objs.size, .ref (h.push o1).objs.size] }).objs.size] }
def zipAd (h : Heap) (o1 o2 : Obj) : Addr := ((((h.push o1).push o2).push { cls := .type "tuple", data := .seq #[.ref h.objs.size, .ref (h.push o1).objs.size] }).push { cls := .type "tuple", data := .seq #[.none, .none] }).objs.size
theorem zip_new {v1 v2 : Value} {o1 o2 : Obj} {H1 H2 : Heap → Prop} (B1 : Begins v1 o1 H1) (B2 : Begins v2 o2 H2) :
    Meets (Builtin.«zip.__new__» ⟨[.type "zip", v1, v2], []⟩) (fun _ R s => H1 s.heap ∧ H2 s.heap ∧ R (.ok (.ret (.ref (zipAd s.heap o1 o2)))) { s with heap := zipHp s.heap o1 o2 }) :=
  .of_wp fun prog w A R s h => by
    obtain ⟨hp, g, d, tk, os⟩ := s
    obtain ⟨q1, q2, h⟩ := h
    have hsub := sub_zip
    have i1 : ∀ {A' : Around} {E : Value → Shared → Prop} {Q : Value → Shared → Prop}, Q (.ref hp.objs.size) ⟨hp.push o1, g, d, tk, os⟩ → wpAny (model prog w) A' (pyIter v1) Q E ⟨hp, g, d, tk, os⟩ := fun q => B1.iter prog w _ _ ⟨hp, g, d, tk, os⟩ _ q1 q
    have i2 : ∀ {A' : Around} {E : Value → Shared → Prop} {Q : Value → Shared → Prop}, Q (.ref (hp.push o1).objs.size) ⟨(hp.push o1).push o2, g, d, tk, os⟩ → wpAny (model prog w) A' (pyIter v2) Q E ⟨hp.push o1, g, d, tk, os⟩ := fun q =>
      B2.iter prog w _ _ ⟨hp.push o1, g, d, tk, os⟩ _ (B2.keeps _ _ q2 fun b o e => Heap.get?_push_of_some _ e) q
    wp_walk using i1, i2
    exact ⟨_, rfl, h⟩
theorem call_zipB {v1 v2 : Value} {o1 o2 : Obj} {H1 H2 : Heap → Prop} {Q : Value → Shared → Prop} (B1 : Begins v1 o1 H1) (B2 : Begins v2 o2 H2) (h1 : H1 s.heap) (h2 : H2 s.heap)
    (h : ∀ h', ZipF h' (s.heap.objs.size + 4) (s.heap.objs.size + 2) (s.heap.objs.size + 3) .none false → IsPair h' (s.heap.objs.size + 2) (.ref s.heap.objs.size) (.ref (s.heap.objs.size + 1)) → IsPair h' (s.heap.objs.size + 3) .none .none →
      h'.get? s.heap.objs.size = some o1 → h'.get? (s.heap.objs.size + 1) = some o2 → (∀ c o, s.heap.get? c = some o → h'.get? c = some o) → h'.objs.size = s.heap.objs.size + 5 → Q (.ref (s.heap.objs.size + 4)) { s with heap := h' }) :
    wpAny (model P w) A (call (.type "zip") [v1, v2]) Q E s := by
  refine callType_new F.called_zip (by decide) (F.typeCall_zip_2 _ _) (F.newCall_zip_2 _ _) (fun obj => F.args_object_init_3 obj _ _) F.entry_zip_new (zip_new B1 B2) ⟨h1, h2, ?_⟩
  have z1 : (s.heap.push o1).objs.size = s.heap.objs.size + 1 := Heap.size_push ..
  have z2 : ((s.heap.push o1).push o2).objs.size = s.heap.objs.size + 2 := by rw [Heap.size_push, z1]
  have z4 : zipAd s.heap o1 o2 = s.heap.objs.size + 4 := by
    unfold zipAd
    rw [Heap.size_push, Heap.size_push, z2]
  have g : ∀ k, k = zipHp s.heap o1 o2 → ZipF k (s.heap.objs.size + 4) (s.heap.objs.size + 2) (s.heap.objs.size + 3) .none false ∧ IsPair k (s.heap.objs.size + 2) (.ref s.heap.objs.size) (.ref (s.heap.objs.size + 1)) ∧ IsPair k (s.heap.objs.size + 3) .none .none ∧
      k.get? s.heap.objs.size = some o1 ∧ k.get? (s.heap.objs.size + 1) = some o2 ∧ (∀ c o, s.heap.get? c = some o → k.get? c = some o) ∧ k.objs.size = s.heap.objs.size + 5 := by
    rintro k rfl
    unfold zipHp
    rw [z1, z2]
    have z3 : (((s.heap.push o1).push o2).push { cls := .type "tuple", data := .seq #[.ref s.heap.objs.size, .ref (s.heap.objs.size + 1)] }).objs.size = s.heap.objs.size + 3 := by rw [Heap.size_push, z2]
    rw [z3]
    have z5 : ((((s.heap.push o1).push o2).push { cls := .type "tuple", data := .seq #[.ref s.heap.objs.size, .ref (s.heap.objs.size + 1)] }).push { cls := .type "tuple", data := .seq #[.none, .none] }).objs.size = s.heap.objs.size + 4 := by rw [Heap.size_push, z3]
    refine ⟨?_, ?_, ?_, ?_, ?_, fun c o x => Heap.get?_push_of_some _ (Heap.get?_push_of_some _ (Heap.get?_push_of_some _ (Heap.get?_push_of_some _ (Heap.get?_push_of_some _ x)))), by rw [Heap.size_push, z5]⟩
    · have q := Heap.get?_push_size ((((s.heap.push o1).push o2).push { cls := .type "tuple", data := .seq #[.ref s.heap.objs.size, .ref (s.heap.objs.size + 1)] }).push { cls := .type "tuple", data := .seq #[.none, .none] })
        (o := { cls := .type "zip", data := .fields #[.none, .bool false, .bool false, .ref (s.heap.objs.size + 2), .ref (s.heap.objs.size + 3)] }) rfl
      rw [z5] at q
      exact q
    · have q := Heap.get?_push_size ((s.heap.push o1).push o2) (o := { cls := .type "tuple", data := .seq #[.ref s.heap.objs.size, .ref (s.heap.objs.size + 1)] }) rfl
      rw [z2] at q
      exact Heap.get?_push_of_some _ (Heap.get?_push_of_some _ q)
    · have q := Heap.get?_push_size (((s.heap.push o1).push o2).push { cls := .type "tuple", data := .seq #[.ref s.heap.objs.size, .ref (s.heap.objs.size + 1)] }) (o := { cls := .type "tuple", data := .seq #[.none, .none] }) rfl
      rw [z3] at q
      exact Heap.get?_push_of_some _ q
    · exact Heap.get?_push_of_some _ (Heap.get?_push_of_some _ (Heap.get?_push_of_some _ (Heap.get?_push_of_some _ (Heap.get?_push_size _ B1.free))))
    · have q := Heap.get?_push_size (s.heap.push o1) (o := o2) B2.free
      rw [z1] at q
      exact Heap.get?_push_of_some _ (Heap.get?_push_of_some _ (Heap.get?_push_of_some _ q))
  obtain ⟨a1, a2, a3, a4, a5, a6, a7⟩ := g _ rfl
  rw [z4]
  exact ⟨⟨_, a1, rfl⟩, h _ a1 a2 a3 a4 a5 a6 a7⟩
theorem itr_new {t : Bool} {it a : Addr} {h : Heap} (q : h.get? it = some (iterO t a)) : ItrB t it a 0 h := by
  cases t with
  | true => exact ⟨_, q, rfl, rfl⟩
  | false => exact ⟨_, q, rfl, rfl⟩
theorem apart5 (n a b : Nat) (h1 : a < n) (h2 : b < n) : ApartZ (n + 4) (n + 2) (n + 3) n (n + 1) [n, a] [n + 1, b] ∧ a ≠ n ∧ b ≠ n + 1 := by
  refine ⟨⟨?_, ?_, ?_, ?_, ?_, ?_, ?_, ?_, ?_, ?_, ?_, ?_, ?_⟩, ?_, ?_⟩
  all_goals (try simp only [List.mem_cons, List.not_mem_nil, or_false, not_or, true_or])
  all_goals (first | omega | (refine ⟨?_, ?_⟩ <;> (intro e; have e2 : (_ : Nat) = _ := e; omega)) | (intro e; have e2 : (_ : Nat) = _ := e; omega) | trivial)
end
end
end AP

namespace AP
noncomputable section
open PySem PySem.Spec PyProof.Rows L2 RZ
section
variable [Tbls] [Gd]
def iZipX (K : PySem.W.Frag) (ta : TA) : TI := fun σ H R => ta σ H fun vs H1 => ∃ t1 t2 a b xs ys, vs = [.ref a, .ref b] ∧ SqB t1 K H1 a xs ∧ SqB t2 K H1 b ys ∧ R (ItZB t1 t2 K a b) H1
theorem pi_zipX {X : Cx} {e e2 : Expr} {ta : TA} {p pos tpos : Pos} {elts : List Expr} {kk : Nat} (hg : Gl X "zip") (hm : X.mg "zip" = none) (ha : PA X [e, e2] ta)
    (hs : starEach [e, e2] X.env = (false, eval e X.env) :: starEach [e2] X.env := by rfl) (hpl : (backTo pos (starEach [e2] X.env)).any (·.1) = false := by rfl) :
    PI X (.Tuple elts kk tpos) (.Call (.Name "zip" p) [e, e2] [] pos) (iZipX X.K ta) := by
  refine ⟨fun pins s σ H R I h => Call_ (ld_blt I hg hm PyProof.Rows.boot_zip (PyProof.Rows.callWith_type1 (thn (ha.run pos pins s σ H _ I h) fun us s1 ⟨vs, H1, I1, r1, q1⟩ => ?_) hs hpl))⟩
  obtain ⟨t1, t2, a, b, xs, ys, rfl, hqx, hqy, q⟩ := q1
  obtain ⟨v1, v2, rfl, r, r'⟩ := vals2 r1
  cases r
  cases r'
  have new : ∀ c ∈ [s1.heap.objs.size + 4, s1.heap.objs.size + 2, s1.heap.objs.size + 3, s1.heap.objs.size, s1.heap.objs.size + 1], FpOk X pins H1 c := by
    have one : ∀ k, FpOk X pins H1 (s1.heap.objs.size + k) := fun k => I1.fpOk (Nat.le_add_right _ k) (I1.hok.fresh (Nat.le_add_right _ k))
    simp only [List.forall_mem_cons]
    exact ⟨one 4, one 2, one 3, one 0, one 1, fun _ q => nomatch q⟩
  obtain ⟨us, _, p1⟩ := seqB I1 hqx
  obtain ⟨vs, _, p2⟩ := seqB I1 hqy
  obtain ⟨D, n1, n2⟩ := apart5 s1.heap.objs.size a b p1.lt p2.lt
  exact call_zipB (beginsB t1 a us.toArray) (beginsB t2 b vs.toArray) p1 p2 fun g hz hTI hTO g1 g2 hk _ => wpAny_pyIter_zip hz ⟨_, _, _, _, H1, rfl, I1.kept (t' := s1.toks) hk, turn_ZB D n1 n2, ⟨hz, hTI, ⟨_, _, hTO⟩, itr_new g1, itr_new g2⟩, new, q⟩
theorem walk_zipX {K : PySem.W.Frag} {t1 t2 : Bool} {a b : Addr} {xs ys : List V} : L2.Walk (ItZB t1 t2 K a b) (min xs.length ys.length) (fun H => SqB t1 K H a xs ∧ SqB t2 K H b ys) (YPairF (fun i => xs[i]?) (fun i => ys[i]?)) := by
  refine ⟨fun i _ hi q => ?_, fun _ q => ⟨xs, ys, q.1, q.2, rfl⟩, fun i H v H' _ q ⟨T, x, y, h1, h2, h3, h4, h5⟩ => ⟨T, x, y, h1, h2, h3, h4 xs q.1, h5 ys q.2⟩⟩
  have h1 : i < xs.length := by omega
  have h2 : i < ys.length := by omega
  exact ⟨xs, ys, xs[i], ys[i], q.1, q.2, by simp [h1], by simp [h2]⟩
def seqZ : D → Option (List D)
  | .list xs => some xs
  | .tuple xs => some xs
  | _ => none
theorem seqZ_ok {Z : Zs} {M : List Addr} {H : Hp} {v : V} {x : D} {ds : List D} (h : Rp (zz Z M) H v x) (e : seqZ x = some ds) : ∃ t a xs, v = .ref a ∧ RpA (zz Z M) H xs ds ∧ ∀ M2 H2, Ext M H M2 H2 → ∀ K, SqB t K H2 a xs := by
  unfold seqZ at e
  split at e
  · cases e
    cases h with
    | lst z hx rx => exact ⟨false, _, _, rfl, rx, fun M2 H2 e K => SqL.of (e.keepz z hx)⟩
  · cases e
    cases h with
    | tup z hx rx => exact ⟨true, _, _, rfl, rx, fun M2 H2 e K => (hx.ext e z).sq⟩
  · cases e
def mZipX (a : AM) : IM := fun s => match a s with
  | some ([.d x, .d y], o1) => (match seqZ x, seqZ y with
    | some xs, some ys => some (zipD xs ys, o1)
    | _, _ => none)
  | _ => none
theorem si_zipX {K : PySem.W.Frag} {ta : TA} {a : AM} (ha : SnA ta a) : SnI (iZipX K ta) (mZipX a) := by
  intro Z M s σ H h items o' e R q
  unfold mZipX at e
  split at e
  · rename_i x y o1 ea
    split at e
    · rename_i xs ys ex ey
      cases e
      refine ha Z M s σ H h _ _ ea _ fun M1 vs H1 ⟨e1, m1⟩ h1 r1 => ?_
      subst m1
      cases r1 with
      | cons hx t =>
        cases t with
        | cons hy t2 =>
          cases t2
          obtain ⟨t1, a1, us, rfl, r1, k1⟩ := seqZ_ok (show Rp (zz Z _) H1 _ x from hx) ex
          obtain ⟨t2, a2, ws, rfl, r2, k2⟩ := seqZ_ok (show Rp (zz Z _) H1 _ y from hy) ey
          refine ⟨t1, t2, a1, a2, us, ws, rfl, k1 _ _ (Ext.refl _ _) K, k2 _ _ (Ext.refl _ _) K, q _ H1 e1 h1 ?_⟩
          exact src_pairF (walk_zipX (K := K)) (fun M2 H2 e => ⟨k1 M2 H2 e K, k2 M2 H2 e K⟩) (pair_of r1) (pair_of r2) _ (by rw [zipD_len, r1.length, r2.length]) fun i d e _ a b => zipD_get xs ys i d e a b
    · cases e
  · cases e
end
end
end AP

namespace AP
noncomputable section
open PySem PySem.Spec PyProof.Rows L2 RZ
open PySem.W (EachIs)
section
theorem rows_of : ∀ {qs : List (V × D)} {us : List Value}, Vals (qs.map (·.1)) us → ∃ bs : List (Value × V × D), bs.map (·.1) = us ∧ bs.map (·.2) = qs ∧ ∀ b ∈ bs, L2.RelV b.2.1 b.1
  | [], _, .nil => ⟨[], rfl, rfl, fun _ h => absurd h (by simp)⟩
  | q :: qs, u :: us, .cons r t => by
    obtain ⟨bs, h1, h2, h3⟩ := rows_of t
    refine ⟨(u, q) :: bs, by rw [List.map_cons, h1], by rw [List.map_cons, h2], fun b hb => ?_⟩
    rcases List.mem_cons.mp hb with rfl | hb
    · exact r
    · exact h3 b hb
theorem vals_rows : ∀ {bs : List (Value × V × D)}, (∀ b ∈ bs, L2.RelV b.2.1 b.1) → Vals ((bs.map (·.2)).map (·.1)) (bs.map (·.1))
  | [], _ => .nil
  | b :: bs, h => .cons (h b List.mem_cons_self) (vals_rows fun c hc => h c (List.mem_cons_of_mem _ hc))
theorem each_rows {h : Heap} : ∀ {bs : List (Value × V × D)}, (∀ b ∈ bs, ∃ as, Reads h b.1 b.2.2 as) → EachIs (fun v (b : Value × V × D) => ∃ as, Reads h v b.2.2 as) (bs.map (·.1)) bs
  | [], _ => .nil
  | b :: bs, h => .cons (h b List.mem_cons_self) (each_rows fun c hc => h c (List.mem_cons_of_mem _ hc))
def rSortL (K : PySem.W.Frag) : List V → Hp → VK → Prop := fun vs H Q => ∃ (l : Addr) (qs : List (V × D)), vs = [V.ref l] ∧ SqL K H l (qs.map (·.1)) ∧ (∀ q ∈ qs, Dp K H q.1 q.2) ∧ PySem.W.AllAlike (qs.map (·.2)) ∧ PySem.W.Sortable (qs.map (·.2)) ∧ (∀ q ∈ qs, q.2.depth ≤ 40) ∧ qs.length ≤ 1000 ∧
  ∀ (ys : List (V × D)) (p : Addr), ys.Perm qs → ys.Pairwise (fun a b => PySem.W.dataLt b.2 a.2 = false) → H p = none → Q (.ref p) (upd H p (.lst (ys.map (·.1))))
theorem cr_sortL {X : Cx} (hu : X.A.units + 64 < cLine) : CallR X (.builtin "sorted") (rSortL X.K) := by
  intro pins s σ H vs us Q I r h
  obtain ⟨l, qs, rfl, hq, dp, al, so, dep, few, q⟩ := h
  rw [Vals.ref1 r]
  obtain ⟨its, rv, pl, hz⟩ := I.list hq
  obtain ⟨bs, rfl, rfl, rel⟩ := rows_of rv
  have eb : ∀ f : V × D → D, (bs.map (·.2)).map f = bs.map fun b => f b.2 := fun f => by rw [List.map_map]; rfl
  rw [eb] at al so
  have mem : ∀ b ∈ bs, b.2 ∈ bs.map (·.2) := fun b hb => List.mem_map.mpr ⟨b, hb, rfl⟩
  refine PySem.W.sorted_data (bs := bs) (enc := fun b : Value × V × D => b.2.2) pl.isList (each_self (fun b : Value × V × D => b.1) bs) (each_rows fun b hb => Dp.reads I _ _ _ (dp _ (mem b hb)) (rel b hb)) al so (by
    rw [List.length_map] at few
    rw [sizeLine_eq]
    omega) (fun b hb => ?_) fun out _ eo => ?_
  · have := dep _ (mem b hb)
    omega
  · have e2 := each_out eo
    subst e2
    have pm := List.mergeSort_perm bs (PySem.W.dataLe false fun b : Value × V × D => b.2.2)
    obtain ⟨c, hc⟩ := PyProof.Rows.sortedAll_at s.heap (bs.map (·.1)) ((bs.mergeSort (PySem.W.dataLe false fun b : Value × V × D => b.2.2)).map (·.1)).toArray
    have rel2 := fun b hb => rel b (pm.mem_iff.mp hb)
    refine ⟨.ref _, upd H (s.heap.objs.size + 1) (.lst (((bs.mergeSort (PySem.W.dataLe false fun b : Value × V × D => b.2.2)).map (·.2)).map (·.1))), I.laid (t' := s.toks) (fun _ _ => PyProof.Rows.sortedAll_old) (Nat.le_succ _) ⟨?_, _, c, vals_rows rel2, hc⟩, rfl, q _ _ (pm.map _) ?_ (I.hok.fresh (Nat.le_succ _))⟩
    · rw [List.length_map, List.length_map, pm.length_eq, sizeLine_eq]
      rw [List.length_map] at few
      omega
    · exact List.pairwise_map.mpr (dataLe_pw (fun b : Value × V × D => b.2.2) bs)
variable [Tbls] [Gd]
def insD (k : D) : List D → List D
  | [] => [k]
  | y :: r => if PySem.W.dataLt k y = true then k :: y :: r else y :: insD k r
theorem insD_perm (k : D) : ∀ l : List D, (insD k l).Perm (k :: l)
  | [] => List.Perm.refl _
  | y :: r => by
    unfold insD
    split
    · exact List.Perm.refl _
    · exact ((insD_perm k r).cons y).trans (List.Perm.swap k y r)
def sortD : List D → List D
  | [] => []
  | k :: r => insD k (sortD r)
theorem sortD_perm : ∀ l : List D, (sortD l).Perm l
  | [] => List.Perm.refl _
  | k :: r => (insD_perm k _).trans ((sortD_perm r).cons k)
def pwD : List D → Bool
  | [] => true
  | k :: r => r.all (fun y => PySem.W.dataLt k y && !PySem.W.dataLt y k) && pwD r
theorem pwD_ok : ∀ {l : List D}, pwD l = true → l.Pairwise fun a b => PySem.W.dataLt b a = false
  | [], _ => .nil
  | k :: r, h => by
    simp only [pwD, Bool.and_eq_true, List.all_eq_true, Bool.not_eq_true'] at h
    exact .cons (fun y hy => (h.1 y hy).2) (pwD_ok h.2)
theorem pwD_two : ∀ {l : List D}, pwD l = true → ∀ a ∈ l, ∀ b ∈ l, PySem.W.dataLt a b = false → PySem.W.dataLt b a = false → a = b
  | [], _, a, ha, _, _, _, _ => absurd ha (by simp)
  | k :: r, h, a, ha, b, hb, h1, h2 => by
    have q := h
    simp only [pwD, Bool.and_eq_true, List.all_eq_true] at q
    rcases List.mem_cons.mp ha with e1 | e1 <;> rcases List.mem_cons.mp hb with e2 | e2
    · rw [e1, e2]
    · have z := (q.1 b e2).1
      rw [e1] at h1
      rw [h1] at z
      cases z
    · have z := (q.1 a e1).1
      rw [e2] at h2
      rw [h2] at z
      cases z
    · exact pwD_two q.2 a e1 b e2 h1 h2
def tup1 : D → Bool
  | .tuple (_ :: _) => true
  | _ => false
theorem tup1_ok {d : D} (h : tup1 d = true) : ∃ x r, d = .tuple (x :: r) := by
  unfold tup1 at h
  split at h
  · exact ⟨_, _, rfl⟩
  · cases h
def okL (ds : List D) : Bool := Nat.ble ds.length 1000 && (ds.all noD && (ds.all tup1 && (ds.all (fun d => ds.all fun e => PySem.W.alike d e) && (ds.all (fun d => Nat.ble d.depth 40) && pwD (sortD ds)))))
def gSortL : List D → Option D
  | [.list ds] => if okL ds = true then some (.list (sortD ds)) else none
  | _ => none
theorem rows_rp {Z : Zs} {H : Hp} : ∀ {xs : List V} {ds : List D}, RpA Z H xs ds → ∃ qs : List (V × D), qs.map (·.1) = xs ∧ qs.map (·.2) = ds ∧ ∀ q ∈ qs, Rp Z H q.1 q.2
  | _, _, .nil => ⟨[], rfl, rfl, fun _ h => absurd h (by simp)⟩
  | _, _, .cons (v := v) (d := d) h t => by
    obtain ⟨qs, h1, h2, h3⟩ := rows_rp t
    refine ⟨(v, d) :: qs, by rw [List.map_cons, h1], by rw [List.map_cons, h2], fun q hq => ?_⟩
    rcases List.mem_cons.mp hq with rfl | hq
    · exact h
    · exact h3 q hq
theorem rp_rows {Z : Zs} {H : Hp} : ∀ {qs : List (V × D)}, (∀ q ∈ qs, Rp Z H q.1 q.2) → RpA Z H (qs.map (·.1)) (qs.map (·.2))
  | [], _ => .nil
  | _ :: _, h => .cons (h _ List.mem_cons_self) (rp_rows fun q hq => h q (List.mem_cons_of_mem _ hq))
theorem rc_sortL {K : PySem.W.Frag} : RCD (rSortL K) gSortL := by
  intro Z H hz vs ds d r e Q q
  unfold gSortL at e
  split at e
  · rename_i ds
    split at e
    · rename_i ok
      cases e
      simp only [okL, Bool.and_eq_true, List.all_eq_true] at ok
      obtain ⟨c1, c2, c3, c4, c5, c6⟩ := ok
      cases r with
      | cons h t =>
        cases t
        obtain ⟨l, xs, rfl, hl, ra⟩ := h
        obtain ⟨qs, rfl, rfl, e3⟩ := rows_rp ra
        have mem : ∀ p ∈ qs, p.2 ∈ qs.map (·.2) := fun p hp => List.mem_map.mpr ⟨p, hp, rfl⟩
        refine ⟨l, qs, rfl, SqL.of hl, fun p hp => (e3 p hp).dp (c2 _ (mem p hp)), c4, .inl fun d hd => tup1_ok (c3 d hd), fun p hp => Nat.le_of_ble_eq_true (c5 _ (mem p hp)), by
          have := Nat.le_of_ble_eq_true c1
          rw [List.length_map] at this
          exact this, fun ys p pm pw hp => ?_⟩
        have e5 : ys.map (·.2) = sortD (qs.map (·.2)) := by
          have pm2 := (pm.map (·.2)).trans (sortD_perm (qs.map (·.2))).symm
          exact List.Perm.eq_of_pairwise (fun a b ha hb r1 r2 => pwD_two c6 a (pm2.mem_iff.mp ha) b hb r2 r1) (List.pairwise_map.mpr pw) (pwD_ok c6) pm2
        have n := New.upd (o := .lst (ys.map (·.1))) hp
        refine q _ _ n (.lst (fresh_nz hz hp) upd_same ?_)
        rw [← e5]
        exact rp_rows fun r hr => (e3 r (pm.mem_iff.mp hr)).new n
    · cases e
  · cases e
def rSortX (K : PySem.W.Frag) : List V → Hp → VK → Prop := fun xs H Q => rSortW K xs H Q ∨ rSortL K xs H Q
theorem cr_sortX {X : Cx} (hc : X.calm = true) (hu : X.A.units + 64 < cLine) : CallR X (.builtin "sorted") (rSortX X.K) := (cr_sortW hc).or (cr_sortL hu)
def gSortedX (ds : List D) : Option D := oel (gSortedW ds) (gSortL ds)
theorem rc_sortedX {K : PySem.W.Frag} : RCD (rSortX K) gSortedX := rc_sortedW.or rc_sortL
end
end
end AP

namespace AP
noncomputable section
open PySem PySem.Spec PyProof.Rows L2
end
end AP

namespace AP
noncomputable section
open PySem PySem.Spec PyProof.Rows L2 RZ
section
variable {P : Program} {w : World} {A : Around} {E : Value → Shared → Prop} {s : Shared} {env : Env}
variable [Tbls] [Gd]
end
end
end AP

namespace AP
noncomputable section
open PySem PySem.Spec PyProof.Rows L2 RZ
section
variable [Tbls] [Gd]
end
end
end AP

namespace AP
noncomputable section
open PySem PySem.Spec PyProof.Rows L2 RZ
section
variable [Tbls] [Gd]
def mNames6X (k : DC) : SM := (mSeq (mAsg (mLst (mCons (mLst (mCons (mC (.str (Str.ofString "ann"))) (mCons (mC (.str (Str.ofString "bea"))) (mCons (mC (.str (Str.ofString "cyd"))) (mCons (mC (.str (Str.ofString "dov"))) (mCons (mC (.str (Str.ofString "eve"))) (mCons (mC (.str (Str.ofString "fio"))) mNil))))))) (mCons (mLst (mCons (mC (.str (Str.ofString "houses"))) (mCons (mC (.str (Str.ofString "none"))) (mCons (mC (.str (Str.ofString "short"))) (mCons (mC (.str (Str.ofString "wire"))) (mCons (mC (.str (Str.ofString "piece"))) (mCons (mC (.str (Str.ofString "further"))) mNil))))))) mNil))) (mgName 1)) (mSeq (mAsg (mOp gAddU (mVar 1) (mLst (mCons (mLst (mCons (mC (.str (Str.ofString "a"))) (mCons (mC (.str (Str.ofString "ab"))) (mCons (mC (.str (Str.ofString "abc"))) (mCons (mC (.str (Str.ofString "b"))) (mCons (mC (.str (Str.ofString "zz"))) (mCons (mC (.str (Str.ofString "zzzzzzzz"))) mNil))))))) (mCons (mLst (mCons (mC (.str (Str.ofString "k"))) (mCons (mC (.str (Str.ofString "j"))) (mCons (mC (.str (Str.ofString "m"))) (mCons (mC (.str (Str.ofString "l"))) (mCons (mC (.str (Str.ofString "n"))) (mCons (mC (.str (Str.ofString "o"))) mNil))))))) mNil)))) (mgName 1)) (mSeq (mAsg (mOp gAddU (mVar 1) (mLst (mCons (mLst (mCons (mC (.str (Str.ofString "end"))) (mCons (mC (.str (Str.ofString "outside"))) (mCons (mC (.str (Str.ofString "sink"))) (mCons (mC (.str (Str.ofString "source"))) (mCons (mC (.str (Str.ofString "start"))) (mCons (mC (.str (Str.ofString "target"))) mNil))))))) (mCons (mLst (mCons (mC (.str (Str.ofString "g"))) (mCons (mC (.str (Str.ofString "k"))) (mCons (mC (.str (Str.ofString "n"))) (mCons (mC (.str (Str.ofString "s"))) (mCons (mC (.str (Str.ofString "t"))) (mCons (mC (.str (Str.ofString "u"))) mNil))))))) mNil)))) (mgName 1)) (mRet (mCB gSortedX (mCons (mCallF 2 (runF 2 (mAnyP k)) (mCons (mVar 0) (mCons (mVar 1) mNil))) mNil))))))
theorem names6X {k : DC} (hk : k.ok = true) {fo : MO} (h : FeedOk fo) : ∃ L fo', runF 2 (mNames6X k) fo [] = some (.list (L.map .str), fo') ∧ L ∈ six ∧ FeedOk fo' := by
  obtain ⟨x, f1, e1, hx, h1⟩ := anyP_l hk h (L := menus6.map fun m => .list (m.map .str)) (by simp [menus6]) (by simp [menus6])
  obtain ⟨m, hm, rfl⟩ := List.mem_map.mp hx
  have ml : m.length < 64 := by
    have : ∀ m ∈ menus6, m.length < 64 := by decide +kernel
    exact this m hm
  refine ⟨sortS m, f1, ?_, List.mem_map.mpr ⟨m, hm, rfl⟩, h1⟩
  refine runF_eq h h1 ?_
  show retF (mNames6X k ⟨[some (.m 0), none], [fo]⟩) = _
  unfold mNames6X
  unfold menus6 at e1
  simp only [List.map_cons, List.map_nil] at e1
  have es : gSortedX [.list (m.map .str)] = some (.list ((sortS m).map .str)) := by
    unfold gSortedX
    rw [gSortedW_s6 ml]
    rfl
  simp only [mSeq, mAsg, mLst, mCons, mC, mNil, mgName, mOp, mVar, mCallF, mRet, mCB, S.on, vw, vws, dats, gS_eq, sS_eq, List.getElem?_cons_zero, List.getElem?_cons_succ, List.set_cons_zero, List.set_cons_succ, List.map_cons, List.map_nil, List.length_cons, List.length_nil, List.cons_append, List.nil_append, and_self, if_true, decide_true, Nat.reduceAdd, Nat.reduceLeDiff, Nat.zero_add, gAddU, g2I, oel, gAddS, g2S, gAddL, e1, es, retF, vwE]
end
end
end AP

namespace AP
noncomputable section
open PySem PySem.Spec PyProof.Rows L2 RZ
section
variable {P : Program} {w : World} {A : Around} {E : Value → Shared → Prop} {s : Shared}
end
section
variable [Tbls] [Gd]
end
end
end AP

namespace AP
noncomputable section
open PySem PySem.Spec PyProof.Rows L2 RZ
variable [Tbls] [Gd]
abbrev ErS := S → Option (Str × List (Str × D) × S)
structure SnIE (K : PySem.W.Frag) (ti : WX → TI) (im : IM) (ee : ErS) : Prop where
  ok : ∀ W, SnI (ti W) im
  er : ∀ Z M s σ H, Rel Z M s σ H → ∀ c fs s', ee s = some (c, fs, s') → ∀ (W : WX) (R : It → Hp → Prop), (∀ M' H' cls d, Ext M H M' H' → Rel Z M' s' σ H' → RX K (zz Z M') H' cls d c fs → W cls d σ H') → ti W σ H R
end
end AP

namespace AP
noncomputable section
open PySem PySem.Spec PyProof.Rows L2 RZ
section
variable [Tbls] [Gd]
end
end
end AP

namespace AP
noncomputable section
open PySem PySem.Spec PyProof.Rows L2 RZ
section
variable [Tbls] [Gd]
end
end
end AP

namespace AP
noncomputable section
open PySem PySem.Spec PyProof.Rows L2 RZ
section
variable [Tbls] [Gd]
def isNames : Option SV → List Str → Bool
  | some (.d (.list ds)), L => decide (strsOf ds = some L)
  | _, _ => false
def isTurn (n k : Nat) (L : List Str) : Option Out → Bool
  | some (.nx ⟨none :: some (.m 0) :: v :: σ, o⟩) => isNames v L && decide (σ.length = n) && decide (o.length = k)
  | _ => false
theorem isTurn_ok {n k : Nat} {L : List Str} {r : Option Out} (h : isTurn n k L r = true) : ∃ σ o, r = some (.nx ⟨none :: some (.m 0) :: some (.d (.list (L.map .str))) :: σ, o⟩) ∧ σ.length = n ∧ o.length = k := by
  unfold isTurn at h
  split at h
  · rename_i v σ o
    simp only [Bool.and_eq_true, decide_eq_true_eq] at h
    obtain ⟨⟨h1, h2⟩, h3⟩ := h
    unfold isNames at h1
    split at h1
    · rename_i ds L2
      rw [decide_eq_true_eq] at h1
      rw [strsOf_eq h1]
      exact ⟨σ, o, rfl, h2, h3⟩
    · cases h1
  · cases h
def turnM (g : GM) (b : SM) (d : D) : SM := fun s => match g (.d d) s with
  | none => none
  | some s1 => b s1
theorem rows_ok {g : GM} {b : SM} {im : IM} {n c k0 : Nat} {L : List Str} {items : List D} {σ : List (Option SV)} {o : List MO} (hi : ∀ σ o, im ⟨σ, o⟩ = some (items, o)) (h1 : σ.length = n) (h2 : o.length = k0)
    (h : ∀ i, i < items.length → ∀ σ o, σ.length = n → o.length = k0 + c * i → isTurn n (k0 + c * (i + 1)) L (turnM g b (items.getD i .none) ⟨none :: some (.m 0) :: some (.d (.list (L.map .str))) :: σ, o⟩) = true) :
    ∃ σ' o', mFor im g b ⟨none :: some (.m 0) :: some (.d (.list (L.map .str))) :: σ, o⟩ = some (.nx ⟨none :: some (.m 0) :: some (.d (.list (L.map .str))) :: σ', o'⟩) ∧ σ'.length = n ∧ o'.length = k0 + c * items.length := by
  have z := mFor_eval (g := g) (b := b) (s := ⟨none :: some (.m 0) :: some (.d (.list (L.map .str))) :: σ, o⟩) (fun i s => ∃ σ o, s = ⟨none :: some (.m 0) :: some (.d (.list (L.map .str))) :: σ, o⟩ ∧ σ.length = n ∧ o.length = k0 + c * i) (hi _ _) ⟨σ, o, rfl, h1, by rw [h2]; omega⟩ (fun i d s hd hs => ?_)
  · obtain ⟨s', e, σ', o', rfl, q1, q2⟩ := z
    exact ⟨σ', o', e, q1, q2⟩
  · obtain ⟨σ1, o1, rfl, q1, q2⟩ := hs
    have lt : i < items.length := (List.getElem?_eq_some_iff.mp hd).1
    have e0 : items.getD i .none = d := by rw [List.getD_eq_getElem?_getD, hd]; rfl
    have t := h i lt σ1 o1 q1 q2
    rw [e0] at t
    obtain ⟨σ2, o2, e, r1, r2⟩ := isTurn_ok t
    unfold turnM at e
    split at e
    · cases e
    · rename_i s1 es
      exact ⟨s1, _, es, e, σ2, o2, rfl, r1, r2⟩
theorem ex_succ {α : Type} {l : List α} {n : Nat} (h : l.length = n + 1) : ∃ a r, l = a :: r ∧ r.length = n := by
  cases l with
  | nil => cases h
  | cons a r => exact ⟨a, r, rfl, Nat.succ.inj h⟩
theorem mSeq_nx {a b : SM} {s s' : S} (h : a s = some (.nx s')) : mSeq a b s = b s' := by
  unfold mSeq
  rw [h]
end
end
end AP

namespace H52
noncomputable section
open PySem PySem.Spec PyProof.Rows L2 RZ AP
variable [Tbls]
abbrev FUEL : Nat := 200
def top (i : Nat) : Stmt := PySem.Challenge.pw_allpieces_k52_further_told.main.body.getD i (.Pass ⟨0, 0, 0, 0⟩)
def clsBody (s : Stmt) (i : Nat) : Stmt := (match s with | .ClassDef _ _ _ b .. => b | _ => []).getD i (.Pass ⟨0, 0, 0, 0⟩)
abbrev FnP (K : PySem.W.Frag) (x : Str) (st : Stmt) (f : Addr) (fd : FuncData) : Prop := FunD K x x (defArgs st) (defBody st) (defScope st) [] [] f fd
abbrev s__steps : Stmt := top 3
abbrev N__steps : List Str := ["arcs", "flow", "steps", "k", "tail", "head", "room"]
theorem sc__steps : FnScope N__steps ["arcs", "flow"] (defScope s__steps) := ⟨rfl, rfl, rfl, by decide +kernel, rfl, by decide +kernel, by decide +kernel⟩
def t__steps (K : PySem.W.Frag) : TS := (tSeq (tAsg tDNewK (gName 2)) (tSeq (tFor (iEnA K (tCons (tVar 0) tNil)) (gTup K 2 (gCons (gName 3) (gCons (gTup K 3 (gCons (gName 4) (gCons (gName 5) (gCons (gName 6) gNil)))) gNil))) (tSeq (tIfS (tTest (tOp (rLtW K) (tOp (rIxA K) (tVar 1) (tVar 3)) (tVar 6))) (tDrop (tBM K "list" rAppend (tDSetd (tVar 2) (tVar 4) (tLst tNil)) (tCons (tTupF (tCons (tVar 5) (tCons (tVar 3) (tCons (tOp AP.rSub (tVar 6) (tOp (rIxA K) (tVar 1) (tVar 3))) tNil)))) tNil))) tNext) (tIfS (tTest (tOp (rGtW K) (tOp (rIxA K) (tVar 1) (tVar 3)) (tC (.int 0)))) (tDrop (tBM K "list" rAppend (tDSetd (tVar 2) (tVar 5) (tLst tNil)) (tCons (tTupF (tCons (tVar 4) (tCons (tVar 3) (tCons (tUn rNeg (tOp (rIxA K) (tVar 1) (tVar 3))) tNil)))) tNil))) tNext))) (tRet (tVar 2))))
def m__steps : SM := (mSeq (mOwn mDict0g 2) (mSeq (mFor (mEnum (mCons (mVar 0) mNil)) (mgTup 2 (mgCons (mgName 3) (mgCons (mgTup 3 (mgCons (mgName 4) (mgCons (mgName 5) (mgCons (mgName 6) mgNil)))) mgNil))) (mSeq (mIfS (mTest (mOp gLtW (mOp gIx (mVar 1) (mVar 3)) (mVar 6))) (mSdApp (mVar 2) (mVar 4) (mTup (mCons (mVar 5) (mCons (mVar 3) (mCons (mOp gSub (mVar 6) (mOp gIx (mVar 1) (mVar 3))) mNil))))) mNext) (mIfS (mTest (mOp gGtW (mOp gIx (mVar 1) (mVar 3)) (mC (.int 0)))) (mSdApp (mVar 2) (mVar 5) (mTup (mCons (mVar 4) (mCons (mVar 3) (mCons (mUn gNeg (mOp gIx (mVar 1) (mVar 3))) mNil))))) mNext))) (mRet (mVar 2))))
theorem ss__steps [Gd] (K : PySem.W.Frag) : SnS (t__steps K) m__steps := (ss_seq (ss_own sn_dict0g) (ss_seq (ss_for (si_enum (sn_cons sn_var sn_nil)) (sg_tup (sgs_cons sg_name (sgs_cons (sg_tup (sgs_cons sg_name (sgs_cons sg_name (sgs_cons sg_name sgs_nil)))) sgs_nil))) (ss_seq (ss_if (sn_test (sn_op r2_ltW (sn_op r2_ix sn_var sn_var) sn_var)) (ss_sdApp sn_var sn_var (sn_tup (sn_cons sn_var (sn_cons sn_var (sn_cons (sn_op r2_sub sn_var (sn_op r2_ix sn_var sn_var)) sn_nil))))) ss_next) (ss_if (sn_test (sn_op r2_gtW (sn_op r2_ix sn_var sn_var) sn_int)) (ss_sdApp sn_var sn_var (sn_tup (sn_cons sn_var (sn_cons sn_var (sn_cons (sn_un r1_neg (sn_op r2_ix sn_var sn_var)) sn_nil))))) ss_next))) (ss_ret sn_var)))
abbrev s_reached : Stmt := top 2
abbrev N_reached : List Str := ["arcs", "flow", "start", "steps", "came", "waiting", "place", "head", "k", "left"]
theorem sc_reached : FnScope N_reached ["arcs", "flow", "start"] (defScope s_reached) := ⟨rfl, rfl, rfl, by decide +kernel, rfl, by decide +kernel, by decide +kernel⟩
def t_reached (K : PySem.W.Frag) : TS := (tSeq (tAsg (tCall (spP 2 (runP 7 m__steps)) [] E0 (tCons (tVar 0) (tCons (tVar 1) tNil))) (gName 3)) (tSeq (tAsg (tDisp [((tVar 2), (tC .non))]) (gName 4)) (tSeq (tAsg (tLst (tCons (tVar 2) tNil)) (gName 5)) (tSeq (tWhile (tTr K (tVar 5)) (tSeq (tAsg (tBM K "list" rPopAt (tVar 5) (tCons (tC (.int 0)) tNil)) (gName 6)) (tFor (iAny K (tDGet2 (tVar 3) (tVar 6) (tLst tNil))) (gTup K 3 (gCons (gName 7) (gCons (gName 8) (gCons (gName 9) gNil)))) (tIfS (tTest (tOp (rInA K fun b => !b) (tVar 7) (tVar 4))) (tSeq (sDPut (tVar 4) (tVar 7) (tTupF (tCons (tVar 6) (tCons (tVar 8) (tCons (tVar 9) tNil))))) (tDrop (tBM K "list" rAppend (tVar 5) (tCons (tVar 7) tNil)))) tNext)))) (tRet (tVar 4))))))
def m_reached : SM := (mSeq (mAsg (mCall 2 (runP 7 m__steps) (mCons (mVar 0) (mCons (mVar 1) mNil))) (mgName 3)) (mSeq (mOwn (mDisp1 (mVar 2) (mC .none)) 4) (mSeq (mOwn (mLstN (mCons (mVar 2) mNil)) 5) (mSeq (whileM (mTr (mVar 5)) (mSeq (mAsg (mPopI (mVar 5) (mC (.int 0))) (mgName 6)) (mFor (mAnyI (mGet2 (mVar 3) (mVar 6) (mLst mNil))) (mgTup 3 (mgCons (mgName 7) (mgCons (mgName 8) (mgCons (mgName 9) mgNil)))) (mIfS (mTest (mOp gNotIn (mVar 7) (mVar 4))) (mSeq (mPut (mTup (mCons (mVar 6) (mCons (mVar 8) (mCons (mVar 9) mNil)))) (mVar 4) (mVar 7)) (mApp (mVar 5) (mVar 7))) mNext))) FUEL) (mRet (mVar 4))))))
theorem ss_reached [Gd] (K : PySem.W.Frag) : SnS (t_reached K) m_reached := (ss_seq (ss_asg (sn_call (sn_cons sn_var (sn_cons sn_var sn_nil))) sg_name) (ss_seq (ss_own (sn_disp1 sn_var sn_non)) (ss_seq (ss_own (sn_lstN (sn_cons sn_var sn_nil))) (ss_seq (ss_while FUEL (sn_tr sn_var) (ss_seq (ss_asg (sn_popI sn_var sn_int) sg_name) (ss_for (si_any (sn_get2 sn_var sn_var (sn_lst sn_nil))) (sg_tup (sgs_cons sg_name (sgs_cons sg_name (sgs_cons sg_name sgs_nil)))) (ss_if (sn_test (sn_op (r2_in (f := fun b => !b)) sn_var sn_var)) (ss_seq (ss_put (sn_tup (sn_cons sn_var (sn_cons sn_var (sn_cons sn_var sn_nil)))) sn_var sn_var) (ss_app sn_var sn_var)) ss_next)))) (ss_ret sn_var)))))
abbrev s__open_path : Stmt := top 4
abbrev N__open_path : List Str := ["arcs", "flow", "start", "end", "came", "path", "step", "place", "k", "left"]
theorem sc__open_path : FnScope N__open_path ["arcs", "flow", "start", "end"] (defScope s__open_path) := ⟨rfl, rfl, rfl, by decide +kernel, rfl, by decide +kernel, by decide +kernel⟩
def t__open_path (K : PySem.W.Frag) : TS := (tSeq (tAsg (tCall (spP 3 (runP 10 m_reached)) [] E0 (tCons (tVar 0) (tCons (tVar 1) (tCons (tVar 2) tNil)))) (gName 4)) (tSeq (tAsg (tLst tNil) (gName 5)) (tSeq (tAsg (tDGet1 (tVar 4) (tVar 3)) (gName 6)) (tSeq (tWhile (tTest (tOp rNotN (tVar 6) (tC .non))) (tSeq (tAsg (tVar 6) (gEi K 3 (gCons (gName 7) (gCons (gName 8) (gCons (gName 9) gNil))))) (tSeq (tDrop (tBM K "list" rAppend (tVar 5) (tCons (tTupF (tCons (tVar 8) (tCons (tVar 9) tNil))) tNil))) (tAsg (tOp (rIxA K) (tVar 4) (tVar 7)) (gName 6))))) (tRet (tVar 5))))))
def m__open_path : SM := (mSeq (mAsg (mCall 3 (runP 10 m_reached) (mCons (mVar 0) (mCons (mVar 1) (mCons (mVar 2) mNil)))) (mgName 4)) (mSeq (mOwn (mLstN mNil) 5) (mSeq (mAsg (mGet1 (mVar 4) (mVar 3)) (mgName 6)) (mSeq (whileM (mTest (mOp gIsNot (mVar 6) (mC .none))) (mSeq (mAsg (mVar 6) (mgSeq 3 (mgCons (mgName 7) (mgCons (mgName 8) (mgCons (mgName 9) mgNil))))) (mSeq (mApp (mVar 5) (mTup (mCons (mVar 8) (mCons (mVar 9) mNil)))) (mAsg (mOp gIx (mVar 4) (mVar 7)) (mgName 6)))) FUEL) (mRet (mVar 5))))))
theorem ss__open_path [Gd] (K : PySem.W.Frag) : SnS (t__open_path K) m__open_path := (ss_seq (ss_asg (sn_call (sn_cons sn_var (sn_cons sn_var (sn_cons sn_var sn_nil)))) sg_name) (ss_seq (ss_own (sn_lstN sn_nil)) (ss_seq (ss_asg (sn_get1 sn_var sn_var) sg_name) (ss_seq (ss_while FUEL (sn_test (sn_op r2_notN sn_var sn_non)) (ss_seq (ss_asg sn_var (sg_seq (sgs_cons sg_name (sgs_cons sg_name (sgs_cons sg_name sgs_nil))))) (ss_seq (ss_app sn_var (sn_tup (sn_cons sn_var (sn_cons sn_var sn_nil)))) (ss_asg (sn_op r2_ix sn_var sn_var) sg_name)))) (ss_ret sn_var)))))
abbrev s_fullest_flow : Stmt := top 1
abbrev N_fullest_flow : List Str := ["arcs", "start", "end", "flow", "path", "more", "arc", "k", "left"]
theorem sc_fullest_flow : FnScope N_fullest_flow ["arcs", "start", "end"] (defScope s_fullest_flow) := ⟨rfl, rfl, rfl, by decide +kernel, rfl, by decide +kernel, by decide +kernel⟩
def t_fullest_flow (K : PySem.W.Frag) : TS := (tSeq (tAsg (tLc (iAny K (tVar 0)) (gName 6) tYes (tC (.int 0)) [6]) (gName 3)) (tSeq (tAsg (tCall (spPF 4 (runP 10 m__open_path) (frM 10 m__open_path)) [] E0 (tCons (tVar 0) (tCons (tVar 3) (tCons (tVar 1) (tCons (tVar 2) tNil))))) (gName 4)) (tSeq (tWhile (tTr K (tVar 4)) (tSeq (tAsg (tCB (rMinW K) (tCons (tLc (iAny K (tVar 4)) (gTup K 2 (gCons (gName 7) (gCons (gName 8) gNil))) tYes (tCB rAbs (tCons (tVar 8) tNil)) [7, 8]) tNil)) (gName 5)) (tSeq (tFor (iAny K (tVar 4)) (gTup K 2 (gCons (gName 7) (gCons (gName 8) gNil))) (tAsg (tIf (tTest (tOp (rGtW K) (tVar 8) (tC (.int 0)))) (tOp (rAddU K) (tOp (rIxA K) (tVar 3) (tVar 7)) (tVar 5)) (tOp AP.rSub (tOp (rIxA K) (tVar 3) (tVar 7)) (tVar 5))) (L2.gSub (tVar 3) (tVar 7) rSetL))) (tAsg (tCall (spPF 4 (runP 10 m__open_path) (frM 10 m__open_path)) [] E0 (tCons (tVar 0) (tCons (tVar 3) (tCons (tVar 1) (tCons (tVar 2) tNil))))) (gName 4))))) (tRet (tVar 3)))))
def m_fullest_flow : SM := (mSeq (mOwn (mLc (mAnyI (mVar 0)) (mgName 6) mYes (mC (.int 0)) [6]) 3) (mSeq (mAsg (mCallW 4 (runP 10 m__open_path) (frM 10 m__open_path) (mCons (mVar 0) (mCons (mVar 3) (mCons (mVar 1) (mCons (mVar 2) mNil))))) (mgName 4)) (mSeq (whileM (mTr (mVar 4)) (mSeq (mAsg (mCB gMinW (mCons (mDat (mLc (mAnyI (mVar 4)) (mgTup 2 (mgCons (mgName 7) (mgCons (mgName 8) mgNil))) mYes (mCB gAbs (mCons (mVar 8) mNil)) [7, 8])) mNil)) (mgName 5)) (mSeq (mFor (mAnyI (mVar 4)) (mgTup 2 (mgCons (mgName 7) (mgCons (mgName 8) mgNil))) (mPutL (mIf (mTest (mOp gGtW (mVar 8) (mC (.int 0)))) (mOp gAddU (mOp gIx (mVar 3) (mVar 7)) (mVar 5)) (mOp gSub (mOp gIx (mVar 3) (mVar 7)) (mVar 5))) (mVar 3) (mVar 7))) (mAsg (mCallW 4 (runP 10 m__open_path) (frM 10 m__open_path) (mCons (mVar 0) (mCons (mVar 3) (mCons (mVar 1) (mCons (mVar 2) mNil))))) (mgName 4)))) FUEL) (mRet (mVar 3)))))
theorem ss_fullest_flow [Gd] (K : PySem.W.Frag) : SnS (t_fullest_flow K) m_fullest_flow := (ss_seq (ss_own (sn_lc (si_any sn_var) sg_name (gk_name (by decide)) sn_yes sn_int)) (ss_seq (ss_asg (sn_callW (sn_cons sn_var (sn_cons sn_var (sn_cons sn_var (sn_cons sn_var sn_nil))))) sg_name) (ss_seq (ss_while FUEL (sn_tr sn_var) (ss_seq (ss_asg (sn_cb rc_minW (sn_cons (sn_dat (sn_lc (si_any sn_var) (sg_tup (sgs_cons sg_name (sgs_cons sg_name sgs_nil))) (gk_tup (gks_cons (gk_name (by decide)) (gks_cons (gk_name (by decide)) gks_nil))) sn_yes (sn_cb rc_abs (sn_cons sn_var sn_nil)))) sn_nil)) sg_name) (ss_seq (ss_for (si_any sn_var) (sg_tup (sgs_cons sg_name (sgs_cons sg_name sgs_nil))) (ss_putL (sn_if (sn_test (sn_op r2_gtW sn_var sn_int)) (sn_op r2_addU (sn_op r2_ix sn_var sn_var) sn_var) (sn_op r2_sub (sn_op r2_ix sn_var sn_var) sn_var)) sn_var sn_var)) (ss_asg (sn_callW (sn_cons sn_var (sn_cons sn_var (sn_cons sn_var (sn_cons sn_var sn_nil))))) sg_name)))) (ss_ret sn_var))))
abbrev s_arcs_of : Stmt := top 9
abbrev N_arcs_of : List Str := ["links", "stocks", "arcs", "k", "houses", "times", "house"]
theorem sc_arcs_of : FnScope N_arcs_of ["links", "stocks"] (defScope s_arcs_of) := ⟨rfl, rfl, rfl, by decide +kernel, rfl, by decide +kernel, by decide +kernel⟩
def t_arcs_of (K : PySem.W.Frag) : TS := (tSeq (tAsg (tCB (rLstA K) (tCons (tVar 0) tNil)) (gName 2)) (tSeq (tFor (iEnA K (tCons (tVar 1) tNil)) (gTup K 2 (gCons (gName 3) (gCons (gTup K 2 (gCons (gName 4) (gCons (gName 5) gNil))) gNil))) (tSeq (tDrop (tBM K "list" rAppend (tVar 2) (tCons (tTupF (tCons (tC (.str (Str.ofString ""))) (tCons (tVar 3) (tCons (tVar 5) tNil)))) tNil))) (tDrop (tBM K "list" (rExtU K) (tVar 2) (tCons (tLcK K 4 (iAny K (tVar 4)) (gName 6) tYes (tTupF (tCons (tVar 3) (tCons (tVar 6) (tCons (tVar 5) tNil)))) [6]) tNil))))) (tRet (tVar 2))))
def m_arcs_of : SM := (mSeq (mOwn (mListN (mVar 0)) 2) (mSeq (mFor (mEnum (mCons (mVar 1) mNil)) (mgTup 2 (mgCons (mgName 3) (mgCons (mgTup 2 (mgCons (mgName 4) (mgCons (mgName 5) mgNil))) mgNil))) (mSeq (mApp (mVar 2) (mTup (mCons (mC (.str (Str.ofString ""))) (mCons (mVar 3) (mCons (mVar 5) mNil))))) (mExtU (mVar 2) (mDat (mLcK 4 (mAnyI (mVar 4)) (mgName 6) mYes (mTup (mCons (mVar 3) (mCons (mVar 6) (mCons (mVar 5) mNil)))) [6]))))) (mRet (mVar 2))))
theorem ss_arcs_of [Gd] (K : PySem.W.Frag) : SnS (t_arcs_of K) m_arcs_of := (ss_seq (ss_own (sn_listN sn_var)) (ss_seq (ss_for (si_enum (sn_cons sn_var sn_nil)) (sg_tup (sgs_cons sg_name (sgs_cons (sg_tup (sgs_cons sg_name (sgs_cons sg_name sgs_nil))) sgs_nil))) (ss_seq (ss_app sn_var (sn_tup (sn_cons sn_str (sn_cons sn_var (sn_cons sn_var sn_nil))))) (ss_extU sn_var (sn_dat (sn_lcK (i := 4) (si_any sn_var) sg_name (gk_name (by decide)) sn_yes (sn_tup (sn_cons sn_var (sn_cons sn_var (sn_cons sn_var sn_nil))))))))) (ss_ret sn_var)))
abbrev s_most_brought : Stmt := top 7
abbrev N_most_brought : List Str := ["links", "stocks", "house", "arcs", "flow", "many", "tail", "head", "room"]
theorem sc_most_brought : FnScope N_most_brought ["links", "stocks", "house"] (defScope s_most_brought) := ⟨rfl, rfl, rfl, by decide +kernel, rfl, by decide +kernel, by decide +kernel⟩
def t_most_brought (K : PySem.W.Frag) : TS := (tSeq (tAsg (tCall (spP 2 (runP 7 m_arcs_of)) [] E0 (tCons (tVar 0) (tCons (tVar 1) tNil))) (gName 3)) (tSeq (tAsg (tCall (spP 3 (runP 9 m_fullest_flow)) [] E0 (tCons (tVar 3) (tCons (tC (.str (Str.ofString ""))) (tCons (tVar 2) tNil)))) (gName 4)) (tRet (tCB (rSum K) (tCons (tLc (iZipX K (tCons (tVar 3) (tCons (tVar 4) tNil))) (gTup K 2 (gCons (gTup K 3 (gCons (gName 6) (gCons (gName 7) (gCons (gName 8) gNil)))) (gCons (gName 5) gNil))) (tTest (tOp (rEqU K) (tVar 6) (tC (.str (Str.ofString ""))))) (tVar 5) [5, 6, 7, 8]) tNil)))))
def m_most_brought : SM := (mSeq (mAsg (mCall 2 (runP 7 m_arcs_of) (mCons (mVar 0) (mCons (mVar 1) mNil))) (mgName 3)) (mSeq (mAsg (mCall 3 (runP 9 m_fullest_flow) (mCons (mVar 3) (mCons (mC (.str (Str.ofString ""))) (mCons (mVar 2) mNil)))) (mgName 4)) (mRet (mCB gSum (mCons (mDat (mLc (mZipX (mCons (mVar 3) (mCons (mVar 4) mNil))) (mgTup 2 (mgCons (mgTup 3 (mgCons (mgName 6) (mgCons (mgName 7) (mgCons (mgName 8) mgNil)))) (mgCons (mgName 5) mgNil))) (mTest (mOp gEq (mVar 6) (mC (.str (Str.ofString ""))))) (mVar 5) [5, 6, 7, 8])) mNil)))))
theorem ss_most_brought [Gd] (K : PySem.W.Frag) : SnS (t_most_brought K) m_most_brought := (ss_seq (ss_asg (sn_call (sn_cons sn_var (sn_cons sn_var sn_nil))) sg_name) (ss_seq (ss_asg (sn_call (sn_cons sn_var (sn_cons sn_str (sn_cons sn_var sn_nil)))) sg_name) (ss_ret (sn_cb rc_sum (sn_cons (sn_dat (sn_lc (si_zipX (sn_cons sn_var (sn_cons sn_var sn_nil))) (sg_tup (sgs_cons (sg_tup (sgs_cons sg_name (sgs_cons sg_name (sgs_cons sg_name sgs_nil)))) (sgs_cons sg_name sgs_nil))) (gk_tup (gks_cons (gk_tup (gks_cons (gk_name (by decide)) (gks_cons (gk_name (by decide)) (gks_cons (gk_name (by decide)) gks_nil)))) (gks_cons (gk_name (by decide)) gks_nil))) (sn_test (sn_op r2_eqU sn_var sn_str)) sn_var)) sn_nil)))))
abbrev s_greatest_set : Stmt := top 8
abbrev N_greatest_set : List Str := ["houses", "links", "stocks", "house", "arcs", "found", "name"]
theorem sc_greatest_set : FnScope N_greatest_set ["houses", "links", "stocks", "house"] (defScope s_greatest_set) := ⟨rfl, rfl, rfl, by decide +kernel, rfl, by decide +kernel, by decide +kernel⟩
def t_greatest_set (K : PySem.W.Frag) : TS := (tSeq (tAsg (tCall (spP 2 (runP 7 m_arcs_of)) [] E0 (tCons (tVar 1) (tCons (tVar 2) tNil))) (gName 4)) (tSeq (tAsg (tCall (spP 3 (runP 10 m_reached)) [] E0 (tCons (tVar 4) (tCons (tCall (spP 3 (runP 9 m_fullest_flow)) [] E0 (tCons (tVar 4) (tCons (tC (.str (Str.ofString ""))) (tCons (tVar 3) tNil)))) (tCons (tC (.str (Str.ofString ""))) tNil)))) (gName 5)) (tRet (tCB (rTupA K) (tCons (tLc (iAny K (tVar 0)) (gName 6) (tTest (tOp (rInA K fun b => !b) (tVar 6) (tVar 5))) (tVar 6) [6]) tNil)))))
def m_greatest_set : SM := (mSeq (mAsg (mCall 2 (runP 7 m_arcs_of) (mCons (mVar 1) (mCons (mVar 2) mNil))) (mgName 4)) (mSeq (mAsg (mCall 3 (runP 10 m_reached) (mCons (mVar 4) (mCons (mCall 3 (runP 9 m_fullest_flow) (mCons (mVar 4) (mCons (mC (.str (Str.ofString ""))) (mCons (mVar 3) mNil)))) (mCons (mC (.str (Str.ofString ""))) mNil)))) (mgName 5)) (mRet (mCB gTuple (mCons (mDat (mLc (mAnyI (mVar 0)) (mgName 6) (mTest (mOp gNotIn (mVar 6) (mVar 5))) (mVar 6) [6])) mNil)))))
theorem ss_greatest_set [Gd] (K : PySem.W.Frag) : SnS (t_greatest_set K) m_greatest_set := (ss_seq (ss_asg (sn_call (sn_cons sn_var (sn_cons sn_var sn_nil))) sg_name) (ss_seq (ss_asg (sn_call (sn_cons sn_var (sn_cons (sn_call (sn_cons sn_var (sn_cons sn_str (sn_cons sn_var sn_nil)))) (sn_cons sn_str sn_nil)))) sg_name) (ss_ret (sn_cb rc_tuple (sn_cons (sn_dat (sn_lc (si_any sn_var) sg_name (gk_name (by decide)) (sn_test (sn_op (r2_in (f := fun b => !b)) sn_var sn_var)) sn_var)) sn_nil)))))
abbrev s_free_links : Stmt := top 10
abbrev N_free_links : List Str := ["net", "giving", "piece", "source", "target"]
theorem sc_free_links : FnScope N_free_links ["net", "giving"] (defScope s_free_links) := ⟨rfl, rfl, rfl, by decide +kernel, rfl, by decide +kernel, by decide +kernel⟩
def t_free_links (K : PySem.W.Frag) : TS := (tRet (tLc (iZipX K (tCons (tOp (rIxA K) (tVar 0) (tC (.int 1))) (tCons (tVar 1) tNil))) (gTup K 2 (gCons (gTup K 2 (gCons (gName 3) (gCons (gName 4) gNil))) (gCons (gName 2) gNil))) tYes (tTupF (tCons (tVar 3) (tCons (tVar 4) (tCons (tIf (tTest (tOp (rEqU K) (tVar 2) (tUn rNeg (tC (.int 1))))) (tC (.int 1)) (tC (.int 0))) tNil)))) [2, 3, 4]))
def m_free_links : SM := (mRet (mDat (mLc (mZipX (mCons (mOp gIx (mVar 0) (mC (.int 1))) (mCons (mVar 1) mNil))) (mgTup 2 (mgCons (mgTup 2 (mgCons (mgName 3) (mgCons (mgName 4) mgNil))) (mgCons (mgName 2) mgNil))) mYes (mTup (mCons (mVar 3) (mCons (mVar 4) (mCons (mIf (mTest (mOp gEq (mVar 2) (mUn gNeg (mC (.int 1))))) (mC (.int 1)) (mC (.int 0))) mNil)))) [2, 3, 4])))
theorem ss_free_links [Gd] (K : PySem.W.Frag) : SnS (t_free_links K) m_free_links := (ss_ret (sn_dat (sn_lc (si_zipX (sn_cons (sn_op r2_ix sn_var sn_int) (sn_cons sn_var sn_nil))) (sg_tup (sgs_cons (sg_tup (sgs_cons sg_name (sgs_cons sg_name sgs_nil))) (sgs_cons sg_name sgs_nil))) (gk_tup (gks_cons (gk_tup (gks_cons (gk_name (by decide)) (gks_cons (gk_name (by decide)) gks_nil))) (gks_cons (gk_name (by decide)) gks_nil))) sn_yes (sn_tup (sn_cons sn_var (sn_cons sn_var (sn_cons (sn_if (sn_test (sn_op r2_eqU sn_var (sn_un r1_neg sn_int))) sn_int sn_int) sn_nil)))))))
abbrev s_single_stocks : Stmt := top 11
abbrev N_single_stocks : List Str := ["found", "owners"]
theorem sc_single_stocks : FnScope N_single_stocks ["found"] (defScope s_single_stocks) := ⟨rfl, rfl, rfl, by decide +kernel, rfl, by decide +kernel, by decide +kernel⟩
def t_single_stocks (K : PySem.W.Frag) : TS := (tRet (tLc (iAny K (tVar 0)) (gName 1) tYes (tTupF (tCons (tVar 1) (tCons (tC (.int 1)) tNil))) [1]))
def m_single_stocks : SM := (mRet (mDat (mLc (mAnyI (mVar 0)) (mgName 1) mYes (mTup (mCons (mVar 1) (mCons (mC (.int 1)) mNil))) [1])))
theorem ss_single_stocks [Gd] (K : PySem.W.Frag) : SnS (t_single_stocks K) m_single_stocks := (ss_ret (sn_dat (sn_lc (si_any sn_var) sg_name (gk_name (by decide)) sn_yes (sn_tup (sn_cons sn_var (sn_cons sn_int sn_nil))))))
abbrev s_is_integer : Stmt := top 19
abbrev N_is_integer : List Str := ["thing"]
theorem sc_is_integer : FnScope N_is_integer ["thing"] (defScope s_is_integer) := ⟨rfl, rfl, rfl, by decide +kernel, rfl, by decide +kernel, by decide +kernel⟩
def t_is_integer (K : PySem.W.Frag) : TS := (tRet (tAndT K (tCB (rIsi K) (tCons (tVar 0) (tCons (tC (.ty (Ty.nm .int))) tNil))) (tNotT K (tCB (rIsi K) (tCons (tVar 0) (tCons (tC (.ty (Ty.nm .bool))) tNil))))))
def m_is_integer : SM := (mRet (mAndV (mIsi .int (mVar 0)) (mNotV (mIsi .bool (mVar 0)))))
theorem ss_is_integer [Gd] (K : PySem.W.Frag) : SnS (t_is_integer K) m_is_integer := (ss_ret (sn_andV (sn_isi sn_var) (sn_notV (sn_isi sn_var))))
abbrev s_is_number : Stmt := top 20
abbrev N_is_number : List Str := ["thing"]
theorem sc_is_number : FnScope N_is_number ["thing"] (defScope s_is_number) := ⟨rfl, rfl, rfl, by decide +kernel, rfl, by decide +kernel, by decide +kernel⟩
def t_is_number (K : PySem.W.Frag) : TS := (tRet (tAndT K (tCall (spP 1 (runP 1 m_is_integer)) [] E0 (tCons (tVar 0) tNil)) (tOp (rGeW K) (tVar 0) (tC (.int 0)))))
def m_is_number : SM := (mRet (mAndV (mCall 1 (runP 1 m_is_integer) (mCons (mVar 0) mNil)) (mOp gGeW (mVar 0) (mC (.int 0)))))
theorem ss_is_number [Gd] (K : PySem.W.Frag) : SnS (t_is_number K) m_is_number := (ss_ret (sn_andV (sn_call (sn_cons sn_var sn_nil)) (sn_op r2_geW sn_var sn_int)))
abbrev s_is_pair : Stmt := top 21
abbrev N_is_pair : List Str := ["thing"]
theorem sc_is_pair : FnScope N_is_pair ["thing"] (defScope s_is_pair) := ⟨rfl, rfl, rfl, by decide +kernel, rfl, by decide +kernel, by decide +kernel⟩
def t_is_pair (K : PySem.W.Frag) : TS := (tRet (tAndT K (tCB (rIsi K) (tCons (tVar 0) (tCons (tC (.ty (Ty.nm .tuple))) tNil))) (tOp (rEqU K) (tCB (rLenA K) (tCons (tVar 0) tNil)) (tC (.int 2)))))
def m_is_pair : SM := (mRet (mAndV (mIsi .tuple (mVar 0)) (mOp gEq (mCB gLen (mCons (mVar 0) mNil)) (mC (.int 2)))))
theorem ss_is_pair [Gd] (K : PySem.W.Frag) : SnS (t_is_pair K) m_is_pair := (ss_ret (sn_andV (sn_isi sn_var) (sn_op r2_eqU (sn_cb rc_len (sn_cons sn_var sn_nil)) sn_int)))
abbrev s_is_ascending : Stmt := top 22
abbrev N_is_ascending : List Str := ["values", "low", "high"]
theorem sc_is_ascending : FnScope N_is_ascending ["values"] (defScope s_is_ascending) := ⟨rfl, rfl, rfl, by decide +kernel, rfl, by decide +kernel, by decide +kernel⟩
def t_is_ascending (K : PySem.W.Frag) : TS := (tRet (tCB (rAll K) (tCons (tLc (iZipX K (tCons (tVar 0) (tCons (tSl (rSlU K) (tVar 0) (tPart (tC (.int 1))) tNoPart) tNil))) (gTup K 2 (gCons (gName 1) (gCons (gName 2) gNil))) tYes (tOp (rLtW K) (tVar 1) (tVar 2)) [1, 2]) tNil)))
def m_is_ascending : SM := (mRet (mCB gAll (mCons (mDat (mLc (mZipX (mCons (mVar 0) (mCons (mSl gSl (mVar 0) (mPart (mC (.int 1))) mNoPart) mNil))) (mgTup 2 (mgCons (mgName 1) (mgCons (mgName 2) mgNil))) mYes (mOp gLtW (mVar 1) (mVar 2)) [1, 2])) mNil)))
theorem ss_is_ascending [Gd] (K : PySem.W.Frag) : SnS (t_is_ascending K) m_is_ascending := (ss_ret (sn_cb rc_all (sn_cons (sn_dat (sn_lc (si_zipX (sn_cons sn_var (sn_cons (sn_sl rs_U sn_var (sn_part sn_int) sn_nopart) sn_nil))) (sg_tup (sgs_cons sg_name (sgs_cons sg_name sgs_nil))) (gk_tup (gks_cons (gk_name (by decide)) (gks_cons (gk_name (by decide)) gks_nil))) sn_yes (sn_op r2_ltW sn_var sn_var))) sn_nil)))
abbrev s_is_name : Stmt := top 23
abbrev N_is_name : List Str := ["thing", "letter"]
theorem sc_is_name : FnScope N_is_name ["thing"] (defScope s_is_name) := ⟨rfl, rfl, rfl, by decide +kernel, rfl, by decide +kernel, by decide +kernel⟩
def t_is_name (K : PySem.W.Frag) : TS := (tSeq (tIfS (tOr (tNot (tTr K (tCB (rIsi K) (tCons (tVar 0) (tCons (tC (.ty (Ty.nm .str))) tNil))))) (tNot (tTest (tChain (rLeW K) (rLeW K) (tC (.int 1)) (tCB (rLenA K) (tCons (tVar 0) tNil)) (tC (.int 8)))))) (tRet (tC (.bl false))) tNext) (tRet (tCB (rAll K) (tCons (tLc (iAny K (tVar 0)) (gName 1) tYes (tChain (rLeW K) (rLeW K) (tC (.str (Str.ofString "a"))) (tVar 1) (tC (.str (Str.ofString "z")))) [1]) tNil))))
def m_is_name : SM := (mSeq (mIfS (mOr (mNot (mTr (mIsi .str (mVar 0)))) (mNot (mTest (mChain gLeW gLeW (mC (.int 1)) (mCB gLen (mCons (mVar 0) mNil)) (mC (.int 8)))))) (mRet (mC (.bool false))) mNext) (mRet (mCB gAll (mCons (mDat (mLc (mAnyI (mVar 0)) (mgName 1) mYes (mChain gLeW gLeW (mC (.str (Str.ofString "a"))) (mVar 1) (mC (.str (Str.ofString "z")))) [1])) mNil))))
theorem ss_is_name [Gd] (K : PySem.W.Frag) : SnS (t_is_name K) m_is_name := (ss_seq (ss_if (sn_or (sn_not (sn_tr (sn_isi sn_var))) (sn_not (sn_test (sn_chain r2_leW r2_leW sn_int (sn_cb rc_len (sn_cons sn_var sn_nil)) sn_int)))) (ss_ret sn_bl) ss_next) (ss_ret (sn_cb rc_all (sn_cons (sn_dat (sn_lc (si_any sn_var) sg_name (gk_name (by decide)) sn_yes (sn_chain r2_leW r2_leW sn_str sn_var sn_str))) sn_nil))))
abbrev s_is_name_pair : Stmt := top 24
abbrev N_is_name_pair : List Str := ["thing"]
theorem sc_is_name_pair : FnScope N_is_name_pair ["thing"] (defScope s_is_name_pair) := ⟨rfl, rfl, rfl, by decide +kernel, rfl, by decide +kernel, by decide +kernel⟩
def t_is_name_pair (K : PySem.W.Frag) : TS := (tRet (tAndT K (tCall (spP 1 (runP 1 m_is_pair)) [] E0 (tCons (tVar 0) tNil)) (tAndT K (tCall (spP 1 (runP 2 m_is_name)) [] E0 (tCons (tOp (rIxA K) (tVar 0) (tC (.int 0))) tNil)) (tCall (spP 1 (runP 2 m_is_name)) [] E0 (tCons (tOp (rIxA K) (tVar 0) (tC (.int 1))) tNil)))))
def m_is_name_pair : SM := (mRet (mAndV (mCall 1 (runP 1 m_is_pair) (mCons (mVar 0) mNil)) (mAndV (mCall 1 (runP 2 m_is_name) (mCons (mOp gIx (mVar 0) (mC (.int 0))) mNil)) (mCall 1 (runP 2 m_is_name) (mCons (mOp gIx (mVar 0) (mC (.int 1))) mNil)))))
theorem ss_is_name_pair [Gd] (K : PySem.W.Frag) : SnS (t_is_name_pair K) m_is_name_pair := (ss_ret (sn_andV (sn_call (sn_cons sn_var sn_nil)) (sn_andV (sn_call (sn_cons (sn_op r2_ix sn_var sn_int) sn_nil)) (sn_call (sn_cons (sn_op r2_ix sn_var sn_int) sn_nil)))))
abbrev s_is_houses : Stmt := top 25
abbrev N_is_houses : List Str := ["thing", "name"]
theorem sc_is_houses : FnScope N_is_houses ["thing"] (defScope s_is_houses) := ⟨rfl, rfl, rfl, by decide +kernel, rfl, by decide +kernel, by decide +kernel⟩
def t_is_houses (K : PySem.W.Frag) : TS := (tSeq (tIfS (tOr (tNot (tTr K (tCB (rIsi K) (tCons (tVar 0) (tCons (tC (.ty (Ty.nm .tuple))) tNil))))) (tNot (tTr K (tVar 0)))) (tRet (tC (.bl false))) tNext) (tRet (tAndT K (tCB (rAll K) (tCons (tLc (iAny K (tVar 0)) (gName 1) tYes (tCall (spP 1 (runP 2 m_is_name)) [] E0 (tCons (tVar 1) tNil)) [1]) tNil)) (tCall (spP 1 (runP 3 m_is_ascending)) [] E0 (tCons (tVar 0) tNil)))))
def m_is_houses : SM := (mSeq (mIfS (mOr (mNot (mTr (mIsi .tuple (mVar 0)))) (mNot (mTr (mVar 0)))) (mRet (mC (.bool false))) mNext) (mRet (mAndV (mCB gAll (mCons (mDat (mLc (mAnyI (mVar 0)) (mgName 1) mYes (mCall 1 (runP 2 m_is_name) (mCons (mVar 1) mNil)) [1])) mNil)) (mCall 1 (runP 3 m_is_ascending) (mCons (mVar 0) mNil)))))
theorem ss_is_houses [Gd] (K : PySem.W.Frag) : SnS (t_is_houses K) m_is_houses := (ss_seq (ss_if (sn_or (sn_not (sn_tr (sn_isi sn_var))) (sn_not (sn_tr sn_var))) (ss_ret sn_bl) ss_next) (ss_ret (sn_andV (sn_cb rc_all (sn_cons (sn_dat (sn_lc (si_any sn_var) sg_name (gk_name (by decide)) sn_yes (sn_call (sn_cons sn_var sn_nil)))) sn_nil)) (sn_call (sn_cons sn_var sn_nil)))))
abbrev s_is_wire : Stmt := top 26
abbrev N_is_wire : List Str := ["thing"]
theorem sc_is_wire : FnScope N_is_wire ["thing"] (defScope s_is_wire) := ⟨rfl, rfl, rfl, by decide +kernel, rfl, by decide +kernel, by decide +kernel⟩
def t_is_wire (K : PySem.W.Frag) : TS := (tRet (tAndT K (tCall (spP 1 (runP 1 m_is_name_pair)) [] E0 (tCons (tVar 0) tNil)) (tOp (rNeU K) (tOp (rIxA K) (tVar 0) (tC (.int 0))) (tOp (rIxA K) (tVar 0) (tC (.int 1))))))
def m_is_wire : SM := (mRet (mAndV (mCall 1 (runP 1 m_is_name_pair) (mCons (mVar 0) mNil)) (mOp gNe (mOp gIx (mVar 0) (mC (.int 0))) (mOp gIx (mVar 0) (mC (.int 1))))))
theorem ss_is_wire [Gd] (K : PySem.W.Frag) : SnS (t_is_wire K) m_is_wire := (ss_ret (sn_andV (sn_call (sn_cons sn_var sn_nil)) (sn_op r2_neU (sn_op r2_ix sn_var sn_int) (sn_op r2_ix sn_var sn_int))))
abbrev s_is_set_among : Stmt := top 27
abbrev N_is_set_among : List Str := ["thing", "houses", "house"]
theorem sc_is_set_among : FnScope N_is_set_among ["thing", "houses"] (defScope s_is_set_among) := ⟨rfl, rfl, rfl, by decide +kernel, rfl, by decide +kernel, by decide +kernel⟩
def t_is_set_among (K : PySem.W.Frag) : TS := (tRet (tAndT K (tCall (spP 1 (runP 2 m_is_houses)) [] E0 (tCons (tVar 0) tNil)) (tCB (rAll K) (tCons (tLc (iAny K (tVar 0)) (gName 2) tYes (tOp (rInA K fun b => b) (tVar 2) (tVar 1)) [2]) tNil))))
def m_is_set_among : SM := (mRet (mAndV (mCall 1 (runP 2 m_is_houses) (mCons (mVar 0) mNil)) (mCB gAll (mCons (mDat (mLc (mAnyI (mVar 0)) (mgName 2) mYes (mOp gIn (mVar 2) (mVar 1)) [2])) mNil))))
theorem ss_is_set_among [Gd] (K : PySem.W.Frag) : SnS (t_is_set_among K) m_is_set_among := (ss_ret (sn_andV (sn_call (sn_cons sn_var sn_nil)) (sn_cb rc_all (sn_cons (sn_dat (sn_lc (si_any sn_var) sg_name (gk_name (by decide)) sn_yes (sn_op (r2_in (f := fun b => b)) sn_var sn_var))) sn_nil))))
abbrev s_is_wire_among : Stmt := top 28
abbrev N_is_wire_among : List Str := ["thing", "houses"]
theorem sc_is_wire_among : FnScope N_is_wire_among ["thing", "houses"] (defScope s_is_wire_among) := ⟨rfl, rfl, rfl, by decide +kernel, rfl, by decide +kernel, by decide +kernel⟩
def t_is_wire_among (K : PySem.W.Frag) : TS := (tRet (tAndT K (tCall (spP 1 (runP 1 m_is_wire)) [] E0 (tCons (tVar 0) tNil)) (tAndT K (tOp (rInA K fun b => b) (tOp (rIxA K) (tVar 0) (tC (.int 0))) (tVar 1)) (tOp (rInA K fun b => b) (tOp (rIxA K) (tVar 0) (tC (.int 1))) (tVar 1)))))
def m_is_wire_among : SM := (mRet (mAndV (mCall 1 (runP 1 m_is_wire) (mCons (mVar 0) mNil)) (mAndV (mOp gIn (mOp gIx (mVar 0) (mC (.int 0))) (mVar 1)) (mOp gIn (mOp gIx (mVar 0) (mC (.int 1))) (mVar 1)))))
theorem ss_is_wire_among [Gd] (K : PySem.W.Frag) : SnS (t_is_wire_among K) m_is_wire_among := (ss_ret (sn_andV (sn_call (sn_cons sn_var sn_nil)) (sn_andV (sn_op (r2_in (f := fun b => b)) (sn_op r2_ix sn_var sn_int) sn_var) (sn_op (r2_in (f := fun b => b)) (sn_op r2_ix sn_var sn_int) sn_var))))
abbrev s_lets_net : Stmt := top 30
abbrev N_lets_net : List Str := ["thing", "known", "houses", "wires", "k", "wire", "house"]
theorem sc_lets_net : FnScope N_lets_net ["thing"] (defScope s_lets_net) := ⟨rfl, rfl, rfl, by decide +kernel, rfl, by decide +kernel, by decide +kernel⟩
def t_lets_net (K : PySem.W.Frag) : TS := (tSeq (tIfS (tNot (tTr K (tCall (spP 1 (runP 1 m_is_pair)) [] E0 (tCons (tVar 0) tNil)))) tNever tNext) (tSeq (tAsg (tVar 0) (gEi K 2 (gCons (gName 2) (gCons (gName 3) gNil)))) (tSeq (tIfS (tNot (tTr K (tCall (spP 1 (runP 2 m_is_houses)) [] E0 (tCons (tVar 2) tNil)))) tNever tNext) (tSeq (tIfS (tNot (tTr K (tCB (rIsi K) (tCons (tVar 3) (tCons (tC (.ty (Ty.nm .tuple))) tNil))))) tNever tNext) (tSeq (tAsg (tDc (iAny K (tVar 2)) (gName 6) tYes (tVar 6) (tC (.bl true)) [6]) (gName 1)) (tSeq (tFor (iEnA K (tCons (tVar 3) tNil)) (gTup K 2 (gCons (gName 4) (gCons (gName 5) gNil))) (tIfS (tNot (tTr K (tCall (spP 2 (runP 2 m_is_wire_among)) [] E0 (tCons (tVar 5) (tCons (tVar 1) tNil))))) tNever tNext)) (tRet (tCB (rLenA K) (tCons (tVar 3) tNil)))))))))
def m_lets_net : SM := (mSeq (mIfS (mNot (mTr (mCall 1 (runP 1 m_is_pair) (mCons (mVar 0) mNil)))) mNever mNext) (mSeq (mAsg (mVar 0) (mgSeq 2 (mgCons (mgName 2) (mgCons (mgName 3) mgNil)))) (mSeq (mIfS (mNot (mTr (mCall 1 (runP 2 m_is_houses) (mCons (mVar 2) mNil)))) mNever mNext) (mSeq (mIfS (mNot (mTr (mIsi .tuple (mVar 3)))) mNever mNext) (mSeq (mAsg (mDat (mDc (mAnyI (mVar 2)) (mgName 6) mYes (mVar 6) (mC (.bool true)) [6])) (mgName 1)) (mSeq (mFor (mEnum (mCons (mVar 3) mNil)) (mgTup 2 (mgCons (mgName 4) (mgCons (mgName 5) mgNil))) (mIfS (mNot (mTr (mCall 2 (runP 2 m_is_wire_among) (mCons (mVar 5) (mCons (mVar 1) mNil))))) mNever mNext)) (mRet (mCB gLen (mCons (mVar 3) mNil)))))))))
theorem ss_lets_net [Gd] (K : PySem.W.Frag) : SnS (t_lets_net K) m_lets_net := (ss_seq (ss_if (sn_not (sn_tr (sn_call (sn_cons sn_var sn_nil)))) ss_never ss_next) (ss_seq (ss_asg sn_var (sg_seq (sgs_cons sg_name (sgs_cons sg_name sgs_nil)))) (ss_seq (ss_if (sn_not (sn_tr (sn_call (sn_cons sn_var sn_nil)))) ss_never ss_next) (ss_seq (ss_if (sn_not (sn_tr (sn_isi sn_var))) ss_never ss_next) (ss_seq (ss_asg (sn_dat (sn_dc (si_any sn_var) sg_name (gk_name (by decide)) sn_yes sn_var sn_bl)) sg_name) (ss_seq (ss_for (si_enum (sn_cons sn_var sn_nil)) (sg_tup (sgs_cons sg_name (sgs_cons sg_name sgs_nil))) (ss_if (sn_not (sn_tr (sn_call (sn_cons sn_var (sn_cons sn_var sn_nil))))) ss_never ss_next)) (ss_ret (sn_cb rc_len (sn_cons sn_var sn_nil)))))))))
abbrev s_need_net : Stmt := top 32
abbrev N_need_net : List Str := ["net"]
theorem sc_need_net : FnScope N_need_net ["net"] (defScope s_need_net) := ⟨rfl, rfl, rfl, by decide +kernel, rfl, by decide +kernel, by decide +kernel⟩
def t_need_net (K : PySem.W.Frag) : TS := (tDrop (tCall (spP 1 (runP 7 m_lets_net)) [] E0 (tCons (tVar 0) tNil)))
def m_need_net : SM := (mDrop (mCall 1 (runP 7 m_lets_net) (mCons (mVar 0) mNil)))
theorem ss_need_net [Gd] (K : PySem.W.Frag) : SnS (t_need_net K) m_need_net := (ss_drop (sn_call (sn_cons sn_var sn_nil)))
abbrev s_need_house : Stmt := top 33
abbrev N_need_house : List Str := ["net", "house"]
theorem sc_need_house : FnScope N_need_house ["net", "house"] (defScope s_need_house) := ⟨rfl, rfl, rfl, by decide +kernel, rfl, by decide +kernel, by decide +kernel⟩
def t_need_house (K : PySem.W.Frag) : TS := (tIfS (tTest (tOp (rInA K fun b => !b) (tVar 1) (tOp (rIxA K) (tVar 0) (tC (.int 0))))) tNever tNext)
def m_need_house : SM := (mIfS (mTest (mOp gNotIn (mVar 1) (mOp gIx (mVar 0) (mC (.int 0))))) mNever mNext)
theorem ss_need_house [Gd] (K : PySem.W.Frag) : SnS (t_need_house K) m_need_house := (ss_if (sn_test (sn_op (r2_in (f := fun b => !b)) sn_var (sn_op r2_ix sn_var sn_int))) ss_never ss_next)
abbrev s_lets_holders : Stmt := top 35
abbrev N_lets_holders : List Str := ["net", "thing", "known", "k", "houses", "house"]
theorem sc_lets_holders : FnScope N_lets_holders ["net", "thing"] (defScope s_lets_holders) := ⟨rfl, rfl, rfl, by decide +kernel, rfl, by decide +kernel, by decide +kernel⟩
def t_lets_holders (K : PySem.W.Frag) : TS := (tSeq (tDrop (tCall (spP 1 (runP 1 m_need_net)) [] E0 (tCons (tVar 0) tNil))) (tSeq (tIfS (tNot (tTr K (tCB (rIsi K) (tCons (tVar 1) (tCons (tC (.ty (Ty.nm .tuple))) tNil))))) tNever tNext) (tSeq (tAsg (tDc (iAny K (tOp (rIxA K) (tVar 0) (tC (.int 0)))) (gName 5) tYes (tVar 5) (tC (.bl true)) [5]) (gName 2)) (tSeq (tFor (iEnA K (tCons (tVar 1) tNil)) (gTup K 2 (gCons (gName 3) (gCons (gName 4) gNil))) (tIfS (tNot (tTr K (tCall (spP 2 (runP 3 m_is_set_among)) [] E0 (tCons (tVar 4) (tCons (tVar 2) tNil))))) tNever tNext)) (tRet (tCB (rLenA K) (tCons (tVar 1) tNil)))))))
def m_lets_holders : SM := (mSeq (mDrop (mCall 1 (runP 1 m_need_net) (mCons (mVar 0) mNil))) (mSeq (mIfS (mNot (mTr (mIsi .tuple (mVar 1)))) mNever mNext) (mSeq (mAsg (mDat (mDc (mAnyI (mOp gIx (mVar 0) (mC (.int 0)))) (mgName 5) mYes (mVar 5) (mC (.bool true)) [5])) (mgName 2)) (mSeq (mFor (mEnum (mCons (mVar 1) mNil)) (mgTup 2 (mgCons (mgName 3) (mgCons (mgName 4) mgNil))) (mIfS (mNot (mTr (mCall 2 (runP 3 m_is_set_among) (mCons (mVar 4) (mCons (mVar 2) mNil))))) mNever mNext)) (mRet (mCB gLen (mCons (mVar 1) mNil)))))))
theorem ss_lets_holders [Gd] (K : PySem.W.Frag) : SnS (t_lets_holders K) m_lets_holders := (ss_seq (ss_drop (sn_call (sn_cons sn_var sn_nil))) (ss_seq (ss_if (sn_not (sn_tr (sn_isi sn_var))) ss_never ss_next) (ss_seq (ss_asg (sn_dat (sn_dc (si_any (sn_op r2_ix sn_var sn_int)) sg_name (gk_name (by decide)) sn_yes sn_var sn_bl)) sg_name) (ss_seq (ss_for (si_enum (sn_cons sn_var sn_nil)) (sg_tup (sgs_cons sg_name (sgs_cons sg_name sgs_nil))) (ss_if (sn_not (sn_tr (sn_call (sn_cons sn_var (sn_cons sn_var sn_nil))))) ss_never ss_next)) (ss_ret (sn_cb rc_len (sn_cons sn_var sn_nil)))))))
abbrev s_need_holders : Stmt := top 37
abbrev N_need_holders : List Str := ["net", "holders"]
theorem sc_need_holders : FnScope N_need_holders ["net", "holders"] (defScope s_need_holders) := ⟨rfl, rfl, rfl, by decide +kernel, rfl, by decide +kernel, by decide +kernel⟩
def t_need_holders (K : PySem.W.Frag) : TS := (tDrop (tCall (spP 2 (runP 6 m_lets_holders)) [] E0 (tCons (tVar 0) (tCons (tVar 1) tNil))))
def m_need_holders : SM := (mDrop (mCall 2 (runP 6 m_lets_holders) (mCons (mVar 0) (mCons (mVar 1) mNil))))
theorem ss_need_holders [Gd] (K : PySem.W.Frag) : SnS (t_need_holders K) m_need_holders := (ss_drop (sn_call (sn_cons sn_var (sn_cons sn_var sn_nil))))
abbrev s_need_piece : Stmt := top 38
abbrev N_need_piece : List Str := ["holders", "piece"]
theorem sc_need_piece : FnScope N_need_piece ["holders", "piece"] (defScope s_need_piece) := ⟨rfl, rfl, rfl, by decide +kernel, rfl, by decide +kernel, by decide +kernel⟩
def t_need_piece (K : PySem.W.Frag) : TS := (tIfS (tOr (tNot (tTr K (tCall (spP 1 (runP 1 m_is_number)) [] E0 (tCons (tVar 1) tNil)))) (tTest (tOp (rGeW K) (tVar 1) (tCB (rLenA K) (tCons (tVar 0) tNil))))) tNever tNext)
def m_need_piece : SM := (mIfS (mOr (mNot (mTr (mCall 1 (runP 1 m_is_number) (mCons (mVar 1) mNil)))) (mTest (mOp gGeW (mVar 1) (mCB gLen (mCons (mVar 0) mNil))))) mNever mNext)
theorem ss_need_piece [Gd] (K : PySem.W.Frag) : SnS (t_need_piece K) m_need_piece := (ss_if (sn_or (sn_not (sn_tr (sn_call (sn_cons sn_var sn_nil)))) (sn_test (sn_op r2_geW sn_var (sn_cb rc_len (sn_cons sn_var sn_nil))))) ss_never ss_next)
abbrev s_comers_to : Stmt := top 40
abbrev N_comers_to : List Str := ["net", "held", "giving", "piece", "led", "found", "waiting", "house", "wire", "source", "target"]
theorem sc_comers_to : FnScope N_comers_to ["net", "held", "giving", "piece"] (defScope s_comers_to) := ⟨rfl, rfl, rfl, by decide +kernel, rfl, by decide +kernel, by decide +kernel⟩
def t_comers_to (K : PySem.W.Frag) : TS := (tSeq (tAsg (tLc (iEnA K (tCons (tOp (rIxA K) (tVar 0) (tC (.int 1))) tNil)) (gTup K 2 (gCons (gName 8) (gCons (gTup K 2 (gCons (gName 9) (gCons (gName 10) gNil))) gNil))) (tTest (tOp (rEqU K) (tOp (rIxA K) (tVar 2) (tVar 8)) (tVar 3))) (tTupF (tCons (tVar 8) (tCons (tVar 9) (tCons (tVar 10) tNil)))) [8, 9, 10]) (gName 4)) (tSeq (tAsg (tDc (iAny K (tVar 1)) (gName 7) tYes (tVar 7) (tUn rNeg (tC (.int 1))) [7]) (gName 5)) (tSeq (tAsg (tCB (rLstA K) (tCons (tVar 1) tNil)) (gName 6)) (tSeq (tWhile (tTr K (tVar 6)) (tSeq (tAsg (tBM0 K "list" rPop (tVar 6)) (gName 7)) (tFor (iAny K (tVar 4)) (gTup K 3 (gCons (gName 8) (gCons (gName 9) (gCons (gName 10) gNil)))) (tIfS (tAnd (tTest (tOp (rEqU K) (tVar 9) (tVar 7))) (tTest (tOp (rInA K fun b => !b) (tVar 10) (tVar 5)))) (tSeq (sDPut (tVar 5) (tVar 10) (tVar 8)) (tDrop (tBM K "list" rAppend (tVar 6) (tCons (tVar 10) tNil)))) tNext)))) (tRet (tVar 5))))))
def m_comers_to : SM := (mSeq (mAsg (mDat (mLc (mEnum (mCons (mOp gIx (mVar 0) (mC (.int 1))) mNil)) (mgTup 2 (mgCons (mgName 8) (mgCons (mgTup 2 (mgCons (mgName 9) (mgCons (mgName 10) mgNil))) mgNil))) (mTest (mOp gEq (mOp gIx (mVar 2) (mVar 8)) (mVar 3))) (mTup (mCons (mVar 8) (mCons (mVar 9) (mCons (mVar 10) mNil)))) [8, 9, 10])) (mgName 4)) (mSeq (mOwn (mDc (mAnyI (mVar 1)) (mgName 7) mYes (mVar 7) (mUn gNeg (mC (.int 1))) [7]) 5) (mSeq (mOwn (mListN (mVar 1)) 6) (mSeq (whileM (mTr (mVar 6)) (mSeq (mAsg (mPop0 (mVar 6)) (mgName 7)) (mFor (mAnyI (mVar 4)) (mgTup 3 (mgCons (mgName 8) (mgCons (mgName 9) (mgCons (mgName 10) mgNil)))) (mIfS (mAnd (mTest (mOp gEq (mVar 9) (mVar 7))) (mTest (mOp gNotIn (mVar 10) (mVar 5)))) (mSeq (mPut (mVar 8) (mVar 5) (mVar 10)) (mApp (mVar 6) (mVar 10))) mNext))) FUEL) (mRet (mVar 5))))))
theorem ss_comers_to [Gd] (K : PySem.W.Frag) : SnS (t_comers_to K) m_comers_to := (ss_seq (ss_asg (sn_dat (sn_lc (si_enum (sn_cons (sn_op r2_ix sn_var sn_int) sn_nil)) (sg_tup (sgs_cons sg_name (sgs_cons (sg_tup (sgs_cons sg_name (sgs_cons sg_name sgs_nil))) sgs_nil))) (gk_tup (gks_cons (gk_name (by decide)) (gks_cons (gk_tup (gks_cons (gk_name (by decide)) (gks_cons (gk_name (by decide)) gks_nil))) gks_nil))) (sn_test (sn_op r2_eqU (sn_op r2_ix sn_var sn_var) sn_var)) (sn_tup (sn_cons sn_var (sn_cons sn_var (sn_cons sn_var sn_nil)))))) sg_name) (ss_seq (ss_own (sn_dc (si_any sn_var) sg_name (gk_name (by decide)) sn_yes sn_var (sn_un r1_neg sn_int))) (ss_seq (ss_own (sn_listN sn_var)) (ss_seq (ss_while FUEL (sn_tr sn_var) (ss_seq (ss_asg (sn_pop sn_var) sg_name) (ss_for (si_any sn_var) (sg_tup (sgs_cons sg_name (sgs_cons sg_name (sgs_cons sg_name sgs_nil)))) (ss_if (sn_and (sn_test (sn_op r2_eqU sn_var sn_var)) (sn_test (sn_op (r2_in (f := fun b => !b)) sn_var sn_var))) (ss_seq (ss_put sn_var sn_var sn_var) (ss_app sn_var sn_var)) ss_next)))) (ss_ret sn_var)))))
abbrev s_comers : Stmt := top 41
abbrev N_comers : List Str := ["net", "holders", "giving", "piece", "held"]
theorem sc_comers : FnScope N_comers ["net", "holders", "giving"] (defScope s_comers) := ⟨rfl, rfl, rfl, by decide +kernel, rfl, by decide +kernel, by decide +kernel⟩
def t_comers (K : PySem.W.Frag) : TS := (tRet (tLc (iEnA K (tCons (tVar 1) tNil)) (gTup K 2 (gCons (gName 3) (gCons (gName 4) gNil))) tYes (tCall (spP 4 (runP 11 m_comers_to)) [] E0 (tCons (tVar 0) (tCons (tVar 4) (tCons (tVar 2) (tCons (tVar 3) tNil))))) [3, 4]))
def m_comers : SM := (mRet (mDat (mLc (mEnum (mCons (mVar 1) mNil)) (mgTup 2 (mgCons (mgName 3) (mgCons (mgName 4) mgNil))) mYes (mCall 4 (runP 11 m_comers_to) (mCons (mVar 0) (mCons (mVar 4) (mCons (mVar 2) (mCons (mVar 3) mNil))))) [3, 4])))
theorem ss_comers [Gd] (K : PySem.W.Frag) : SnS (t_comers K) m_comers := (ss_ret (sn_dat (sn_lc (si_enum (sn_cons sn_var sn_nil)) (sg_tup (sgs_cons sg_name (sgs_cons sg_name sgs_nil))) (gk_tup (gks_cons (gk_name (by decide)) (gks_cons (gk_name (by decide)) gks_nil))) sn_yes (sn_call (sn_cons sn_var (sn_cons sn_var (sn_cons sn_var (sn_cons sn_var sn_nil))))))))
abbrev s_lets_giving : Stmt := top 43
abbrev N_lets_giving : List Str := ["net", "holders", "thing", "wires", "found", "k", "piece"]
theorem sc_lets_giving : FnScope N_lets_giving ["net", "holders", "thing"] (defScope s_lets_giving) := ⟨rfl, rfl, rfl, by decide +kernel, rfl, by decide +kernel, by decide +kernel⟩
def t_lets_giving (K : PySem.W.Frag) : TS := (tSeq (tDrop (tCall (spP 2 (runP 2 m_need_holders)) [] E0 (tCons (tVar 0) (tCons (tVar 1) tNil)))) (tSeq (tAsg (tOp (rIxA K) (tVar 0) (tC (.int 1))) (gName 3)) (tSeq (tIfS (tOr (tNot (tTr K (tCB (rIsi K) (tCons (tVar 2) (tCons (tC (.ty (Ty.nm .tuple))) tNil))))) (tTest (tOp (rNeU K) (tCB (rLenA K) (tCons (tVar 2) tNil)) (tCB (rLenA K) (tCons (tVar 3) tNil))))) tNever tNext) (tSeq (tFor (iEnA K (tCons (tVar 2) tNil)) (gTup K 2 (gCons (gName 5) (gCons (gName 6) gNil))) (tIfS (tOr (tNot (tTr K (tCall (spP 1 (runP 1 m_is_integer)) [] E0 (tCons (tVar 6) tNil)))) (tNot (tTest (tChain (rLeW K) (rLtW K) (tUn rNeg (tC (.int 1))) (tVar 6) (tCB (rLenA K) (tCons (tVar 1) tNil)))))) tNever tNext)) (tSeq (tAsg (tCall (spP 3 (runP 5 m_comers)) [] E0 (tCons (tVar 0) (tCons (tVar 1) (tCons (tVar 2) tNil)))) (gName 4)) (tSeq (tFor (iEnA K (tCons (tVar 2) tNil)) (gTup K 2 (gCons (gName 5) (gCons (gName 6) gNil))) (tIfS (tAnd (tTest (tOp (rNeU K) (tVar 6) (tUn rNeg (tC (.int 1))))) (tTest (tOp (rInA K fun b => !b) (tOp (rIxA K) (tOp (rIxA K) (tVar 3) (tVar 5)) (tC (.int 0))) (tOp (rIxA K) (tVar 4) (tVar 6))))) tNever tNext)) (tRet (tOp AP.rSub (tCB (rLenA K) (tCons (tVar 2) tNil)) (tSeqM K (rCntT K) (rCntL K) (tVar 2) (tUn rNeg (tC (.int 1))))))))))))
def m_lets_giving : SM := (mSeq (mDrop (mCall 2 (runP 2 m_need_holders) (mCons (mVar 0) (mCons (mVar 1) mNil)))) (mSeq (mAsg (mOp gIx (mVar 0) (mC (.int 1))) (mgName 3)) (mSeq (mIfS (mOr (mNot (mTr (mIsi .tuple (mVar 2)))) (mTest (mOp gNe (mCB gLen (mCons (mVar 2) mNil)) (mCB gLen (mCons (mVar 3) mNil))))) mNever mNext) (mSeq (mFor (mEnum (mCons (mVar 2) mNil)) (mgTup 2 (mgCons (mgName 5) (mgCons (mgName 6) mgNil))) (mIfS (mOr (mNot (mTr (mCall 1 (runP 1 m_is_integer) (mCons (mVar 6) mNil)))) (mNot (mTest (mChain gLeW gLtW (mUn gNeg (mC (.int 1))) (mVar 6) (mCB gLen (mCons (mVar 1) mNil)))))) mNever mNext)) (mSeq (mAsg (mCall 3 (runP 5 m_comers) (mCons (mVar 0) (mCons (mVar 1) (mCons (mVar 2) mNil)))) (mgName 4)) (mSeq (mFor (mEnum (mCons (mVar 2) mNil)) (mgTup 2 (mgCons (mgName 5) (mgCons (mgName 6) mgNil))) (mIfS (mAnd (mTest (mOp gNe (mVar 6) (mUn gNeg (mC (.int 1))))) (mTest (mOp gNotIn (mOp gIx (mOp gIx (mVar 3) (mVar 5)) (mC (.int 0))) (mOp gIx (mVar 4) (mVar 6))))) mNever mNext)) (mRet (mOp gSub (mCB gLen (mCons (mVar 2) mNil)) (mSeqM gCntT gCntL (mVar 2) (mUn gNeg (mC (.int 1))))))))))))
theorem ss_lets_giving [Gd] (K : PySem.W.Frag) : SnS (t_lets_giving K) m_lets_giving := (ss_seq (ss_drop (sn_call (sn_cons sn_var (sn_cons sn_var sn_nil)))) (ss_seq (ss_asg (sn_op r2_ix sn_var sn_int) sg_name) (ss_seq (ss_if (sn_or (sn_not (sn_tr (sn_isi sn_var))) (sn_test (sn_op r2_neU (sn_cb rc_len (sn_cons sn_var sn_nil)) (sn_cb rc_len (sn_cons sn_var sn_nil))))) ss_never ss_next) (ss_seq (ss_for (si_enum (sn_cons sn_var sn_nil)) (sg_tup (sgs_cons sg_name (sgs_cons sg_name sgs_nil))) (ss_if (sn_or (sn_not (sn_tr (sn_call (sn_cons sn_var sn_nil)))) (sn_not (sn_test (sn_chain r2_leW r2_ltW (sn_un r1_neg sn_int) sn_var (sn_cb rc_len (sn_cons sn_var sn_nil)))))) ss_never ss_next)) (ss_seq (ss_asg (sn_call (sn_cons sn_var (sn_cons sn_var (sn_cons sn_var sn_nil)))) sg_name) (ss_seq (ss_for (si_enum (sn_cons sn_var sn_nil)) (sg_tup (sgs_cons sg_name (sgs_cons sg_name sgs_nil))) (ss_if (sn_and (sn_test (sn_op r2_neU sn_var (sn_un r1_neg sn_int))) (sn_test (sn_op (r2_in (f := fun b => !b)) (sn_op r2_ix (sn_op r2_ix sn_var sn_var) sn_int) (sn_op r2_ix sn_var sn_var)))) ss_never ss_next)) (ss_ret (sn_op r2_sub (sn_cb rc_len (sn_cons sn_var sn_nil)) (sn_seqM rm_cntT rm_cntL sn_var (sn_un r1_neg sn_int))))))))))
abbrev s_need_giving : Stmt := top 45
abbrev N_need_giving : List Str := ["net", "holders", "giving"]
theorem sc_need_giving : FnScope N_need_giving ["net", "holders", "giving"] (defScope s_need_giving) := ⟨rfl, rfl, rfl, by decide +kernel, rfl, by decide +kernel, by decide +kernel⟩
def t_need_giving (K : PySem.W.Frag) : TS := (tDrop (tCall (spP 3 (runP 7 m_lets_giving)) [] E0 (tCons (tVar 0) (tCons (tVar 1) (tCons (tVar 2) tNil)))))
def m_need_giving : SM := (mDrop (mCall 3 (runP 7 m_lets_giving) (mCons (mVar 0) (mCons (mVar 1) (mCons (mVar 2) mNil)))))
theorem ss_need_giving [Gd] (K : PySem.W.Frag) : SnS (t_need_giving K) m_need_giving := (ss_drop (sn_call (sn_cons sn_var (sn_cons sn_var (sn_cons sn_var sn_nil)))))
abbrev s_laid : Stmt := top 47
abbrev N_laid : List Str := ["net", "holders", "piece", "house", "held"]
theorem sc_laid : FnScope N_laid ["net", "holders", "piece", "house"] (defScope s_laid) := ⟨rfl, rfl, rfl, by decide +kernel, rfl, by decide +kernel, by decide +kernel⟩
def t_laid (K : PySem.W.Frag) : TS := (tSeq (tDrop (tCall (spP 2 (runP 2 m_need_holders)) [] E0 (tCons (tVar 0) (tCons (tVar 1) tNil)))) (tSeq (tDrop (tCall (spP 2 (runP 2 m_need_piece)) [] E0 (tCons (tVar 1) (tCons (tVar 2) tNil)))) (tSeq (tDrop (tCall (spP 2 (runP 2 m_need_house)) [] E0 (tCons (tVar 0) (tCons (tVar 3) tNil)))) (tSeq (tAsg (tOp (rIxA K) (tVar 1) (tVar 2)) (gName 4)) (tSeq (tIfS (tTest (tOp (rInA K fun b => b) (tVar 3) (tVar 4))) tNever tNext) (tRet (tTupF (StX.tStar K (tSl (rSlU K) (tVar 1) tNoPart (tPart (tVar 2))) (tCons (tCB (rTupA K) (tCons (tCB (rSortX K) (tCons (tLst (StX.tStar K (tVar 4) (tCons (tVar 3) tNil))) tNil)) tNil)) (StX.tStar K (tSl (rSlU K) (tVar 1) (tPart (tOp (rAddU K) (tVar 2) (tC (.int 1)))) tNoPart) tNil))))))))))
def m_laid : SM := (mSeq (mDrop (mCall 2 (runP 2 m_need_holders) (mCons (mVar 0) (mCons (mVar 1) mNil)))) (mSeq (mDrop (mCall 2 (runP 2 m_need_piece) (mCons (mVar 1) (mCons (mVar 2) mNil)))) (mSeq (mDrop (mCall 2 (runP 2 m_need_house) (mCons (mVar 0) (mCons (mVar 3) mNil)))) (mSeq (mAsg (mOp gIx (mVar 1) (mVar 2)) (mgName 4)) (mSeq (mIfS (mTest (mOp gIn (mVar 3) (mVar 4))) mNever mNext) (mRet (mTup (mStar (mSl gSl (mVar 1) mNoPart (mPart (mVar 2))) (mCons (mCB gTuple (mCons (mCB gSortedX (mCons (mLst (mStar (mVar 4) (mCons (mVar 3) mNil))) mNil)) mNil)) (mStar (mSl gSl (mVar 1) (mPart (mOp gAddU (mVar 2) (mC (.int 1)))) mNoPart) mNil))))))))))
theorem ss_laid [Gd] (K : PySem.W.Frag) : SnS (t_laid K) m_laid := (ss_seq (ss_drop (sn_call (sn_cons sn_var (sn_cons sn_var sn_nil)))) (ss_seq (ss_drop (sn_call (sn_cons sn_var (sn_cons sn_var sn_nil)))) (ss_seq (ss_drop (sn_call (sn_cons sn_var (sn_cons sn_var sn_nil)))) (ss_seq (ss_asg (sn_op r2_ix sn_var sn_var) sg_name) (ss_seq (ss_if (sn_test (sn_op (r2_in (f := fun b => b)) sn_var sn_var)) ss_never ss_next) (ss_ret (sn_tup (sn_star (sn_sl rs_U sn_var sn_nopart (sn_part sn_var)) (sn_cons (sn_cb rc_tuple (sn_cons (sn_cb rc_sortedX (sn_cons (sn_lst (sn_star sn_var (sn_cons sn_var sn_nil))) sn_nil)) sn_nil)) (sn_star (sn_sl rs_U sn_var (sn_part (sn_op r2_addU sn_var sn_int)) sn_nopart) sn_nil))))))))))
abbrev s_lacked_by : Stmt := top 49
abbrev N_lacked_by : List Str := ["found", "houses", "piece", "owners", "house"]
theorem sc_lacked_by : FnScope N_lacked_by ["found", "houses"] (defScope s_lacked_by) := ⟨rfl, rfl, rfl, by decide +kernel, rfl, by decide +kernel, by decide +kernel⟩
def t_lacked_by (K : PySem.W.Frag) : TS := (tRet (tCB (rTupA K) (tCons (tLc (iEnA K (tCons (tVar 0) tNil)) (gTup K 2 (gCons (gName 2) (gCons (gName 3) gNil))) (tNot (tTr K (tCB (rAny K) (tCons (tLc (iAny K (tVar 1)) (gName 4) tYes (tOp (rInA K fun b => b) (tVar 4) (tVar 3)) [4]) tNil)))) (tVar 2) [2, 3]) tNil)))
def m_lacked_by : SM := (mRet (mCB gTuple (mCons (mDat (mLc (mEnum (mCons (mVar 0) mNil)) (mgTup 2 (mgCons (mgName 2) (mgCons (mgName 3) mgNil))) (mNot (mTr (mCB gAny (mCons (mDat (mLc (mAnyI (mVar 1)) (mgName 4) mYes (mOp gIn (mVar 4) (mVar 3)) [4])) mNil)))) (mVar 2) [2, 3])) mNil)))
theorem ss_lacked_by [Gd] (K : PySem.W.Frag) : SnS (t_lacked_by K) m_lacked_by := (ss_ret (sn_cb rc_tuple (sn_cons (sn_dat (sn_lc (si_enum (sn_cons sn_var sn_nil)) (sg_tup (sgs_cons sg_name (sgs_cons sg_name sgs_nil))) (gk_tup (gks_cons (gk_name (by decide)) (gks_cons (gk_name (by decide)) gks_nil))) (sn_not (sn_tr (sn_cb rc_any (sn_cons (sn_dat (sn_lc (si_any sn_var) sg_name (gk_name (by decide)) sn_yes (sn_op (r2_in (f := fun b => b)) sn_var sn_var))) sn_nil)))) sn_var)) sn_nil)))
abbrev s__need_numbers : Stmt := top 56
abbrev N__need_numbers : List Str := ["net", "numbers", "k"]
theorem sc__need_numbers : FnScope N__need_numbers ["net", "numbers"] (defScope s__need_numbers) := ⟨rfl, rfl, rfl, by decide +kernel, rfl, by decide +kernel, by decide +kernel⟩
def t__need_numbers (K : PySem.W.Frag) : TS := (tIfS (tOr (tNot (tTr K (tCB (rIsi K) (tCons (tVar 1) (tCons (tC (.ty (Ty.nm .tuple))) tNil))))) (tOr (tTest (tOp (rNeU K) (tCB (rLenA K) (tCons (tVar 1) tNil)) (tCB (rLenA K) (tCons (tOp (rIxA K) (tVar 0) (tC (.int 0))) tNil)))) (tNot (tTr K (tCB (rAll K) (tCons (tLc (iAny K (tVar 1)) (gName 2) tYes (tCall (spP 1 (runP 1 m_is_number)) [] E0 (tCons (tVar 2) tNil)) [2]) tNil)))))) tNever tNext)
def m__need_numbers : SM := (mIfS (mOr (mNot (mTr (mIsi .tuple (mVar 1)))) (mOr (mTest (mOp gNe (mCB gLen (mCons (mVar 1) mNil)) (mCB gLen (mCons (mOp gIx (mVar 0) (mC (.int 0))) mNil)))) (mNot (mTr (mCB gAll (mCons (mDat (mLc (mAnyI (mVar 1)) (mgName 2) mYes (mCall 1 (runP 1 m_is_number) (mCons (mVar 2) mNil)) [2])) mNil)))))) mNever mNext)
theorem ss__need_numbers [Gd] (K : PySem.W.Frag) : SnS (t__need_numbers K) m__need_numbers := (ss_if (sn_or (sn_not (sn_tr (sn_isi sn_var))) (sn_or (sn_test (sn_op r2_neU (sn_cb rc_len (sn_cons sn_var sn_nil)) (sn_cb rc_len (sn_cons (sn_op r2_ix sn_var sn_int) sn_nil)))) (sn_not (sn_tr (sn_cb rc_all (sn_cons (sn_dat (sn_lc (si_any sn_var) sg_name (gk_name (by decide)) sn_yes (sn_call (sn_cons sn_var sn_nil)))) sn_nil)))))) ss_never ss_next)
abbrev s__stocks : Stmt := top 57
abbrev N__stocks : List Str := ["net", "found", "numbers", "house", "number"]
theorem sc__stocks : FnScope N__stocks ["net", "found", "numbers"] (defScope s__stocks) := ⟨rfl, rfl, rfl, by decide +kernel, rfl, by decide +kernel, by decide +kernel⟩
def t__stocks (K : PySem.W.Frag) : TS := (tRet (tOp (rAddU K) (tCall (spP 1 (runP 2 m_single_stocks)) [] E0 (tCons (tVar 1) tNil)) (tLc (iZipX K (tCons (tOp (rIxA K) (tVar 0) (tC (.int 0))) (tCons (tVar 2) tNil))) (gTup K 2 (gCons (gName 3) (gCons (gName 4) gNil))) tYes (tTupF (tCons (tTupF (tCons (tVar 3) tNil)) (tCons (tVar 4) tNil))) [3, 4])))
def m__stocks : SM := (mRet (mOp gAddU (mCall 1 (runP 2 m_single_stocks) (mCons (mVar 1) mNil)) (mDat (mLc (mZipX (mCons (mOp gIx (mVar 0) (mC (.int 0))) (mCons (mVar 2) mNil))) (mgTup 2 (mgCons (mgName 3) (mgCons (mgName 4) mgNil))) mYes (mTup (mCons (mTup (mCons (mVar 3) mNil)) (mCons (mVar 4) mNil))) [3, 4]))))
theorem ss__stocks [Gd] (K : PySem.W.Frag) : SnS (t__stocks K) m__stocks := (ss_ret (sn_op r2_addU (sn_call (sn_cons sn_var sn_nil)) (sn_dat (sn_lc (si_zipX (sn_cons (sn_op r2_ix sn_var sn_int) (sn_cons sn_var sn_nil))) (sg_tup (sgs_cons sg_name (sgs_cons sg_name sgs_nil))) (gk_tup (gks_cons (gk_name (by decide)) (gks_cons (gk_name (by decide)) gks_nil))) sn_yes (sn_tup (sn_cons (sn_tup (sn_cons sn_var sn_nil)) (sn_cons sn_var sn_nil)))))))
abbrev s__least_room : Stmt := top 58
abbrev N__least_room : List Str := ["net", "found", "giving", "numbers", "house"]
theorem sc__least_room : FnScope N__least_room ["net", "found", "giving", "numbers", "house"] (defScope s__least_room) := ⟨rfl, rfl, rfl, by decide +kernel, rfl, by decide +kernel, by decide +kernel⟩
def t__least_room (K : PySem.W.Frag) : TS := (tRet (tOp AP.rSub (tCall (spP 3 (runP 9 m_most_brought)) [] E0 (tCons (tCall (spP 2 (runP 5 m_free_links)) [] E0 (tCons (tVar 0) (tCons (tVar 2) tNil))) (tCons (tCall (spP 3 (runP 5 m__stocks)) [] E0 (tCons (tVar 0) (tCons (tVar 1) (tCons (tVar 3) tNil)))) (tCons (tVar 4) tNil)))) (tCB (rLenA K) (tCons (tVar 1) tNil))))
def m__least_room : SM := (mRet (mOp gSub (mCall 3 (runP 9 m_most_brought) (mCons (mCall 2 (runP 5 m_free_links) (mCons (mVar 0) (mCons (mVar 2) mNil))) (mCons (mCall 3 (runP 5 m__stocks) (mCons (mVar 0) (mCons (mVar 1) (mCons (mVar 3) mNil)))) (mCons (mVar 4) mNil)))) (mCB gLen (mCons (mVar 1) mNil))))
theorem ss__least_room [Gd] (K : PySem.W.Frag) : SnS (t__least_room K) m__least_room := (ss_ret (sn_op r2_sub (sn_call (sn_cons (sn_call (sn_cons sn_var (sn_cons sn_var sn_nil))) (sn_cons (sn_call (sn_cons sn_var (sn_cons sn_var (sn_cons sn_var sn_nil)))) (sn_cons sn_var sn_nil)))) (sn_cb rc_len (sn_cons sn_var sn_nil))))
abbrev s_enough : Stmt := top 51
abbrev N_enough : List Str := ["net", "holders", "giving", "numbers", "found", "house"]
theorem sc_enough : FnScope N_enough ["net", "holders", "giving", "numbers"] (defScope s_enough) := ⟨rfl, rfl, rfl, by decide +kernel, rfl, by decide +kernel, by decide +kernel⟩
def t_enough (K : PySem.W.Frag) : TS := (tSeq (tDrop (tCall (spP 3 (runP 3 m_need_giving)) [] E0 (tCons (tVar 0) (tCons (tVar 1) (tCons (tVar 2) tNil))))) (tSeq (tDrop (tCall (spP 2 (runP 3 m__need_numbers)) [] E0 (tCons (tVar 0) (tCons (tVar 3) tNil)))) (tSeq (tAsg (tCall (spP 3 (runP 5 m_comers)) [] E0 (tCons (tVar 0) (tCons (tVar 1) (tCons (tVar 2) tNil)))) (gName 4)) (tRet (tCB (rAll K) (tCons (tLc (iAny K (tOp (rIxA K) (tVar 0) (tC (.int 0)))) (gName 5) tYes (tOp (rGeW K) (tCall (spP 5 (runP 5 m__least_room)) [] E0 (tCons (tVar 0) (tCons (tVar 4) (tCons (tVar 2) (tCons (tVar 3) (tCons (tVar 5) tNil)))))) (tC (.int 0))) [5]) tNil))))))
def m_enough : SM := (mSeq (mDrop (mCall 3 (runP 3 m_need_giving) (mCons (mVar 0) (mCons (mVar 1) (mCons (mVar 2) mNil))))) (mSeq (mDrop (mCall 2 (runP 3 m__need_numbers) (mCons (mVar 0) (mCons (mVar 3) mNil)))) (mSeq (mAsg (mCall 3 (runP 5 m_comers) (mCons (mVar 0) (mCons (mVar 1) (mCons (mVar 2) mNil)))) (mgName 4)) (mRet (mCB gAll (mCons (mDat (mLc (mAnyI (mOp gIx (mVar 0) (mC (.int 0)))) (mgName 5) mYes (mOp gGeW (mCall 5 (runP 5 m__least_room) (mCons (mVar 0) (mCons (mVar 4) (mCons (mVar 2) (mCons (mVar 3) (mCons (mVar 5) mNil)))))) (mC (.int 0))) [5])) mNil))))))
theorem ss_enough [Gd] (K : PySem.W.Frag) : SnS (t_enough K) m_enough := (ss_seq (ss_drop (sn_call (sn_cons sn_var (sn_cons sn_var (sn_cons sn_var sn_nil))))) (ss_seq (ss_drop (sn_call (sn_cons sn_var (sn_cons sn_var sn_nil)))) (ss_seq (ss_asg (sn_call (sn_cons sn_var (sn_cons sn_var (sn_cons sn_var sn_nil)))) sg_name) (ss_ret (sn_cb rc_all (sn_cons (sn_dat (sn_lc (si_any (sn_op r2_ix sn_var sn_int)) sg_name (gk_name (by decide)) sn_yes (sn_op r2_geW (sn_call (sn_cons sn_var (sn_cons sn_var (sn_cons sn_var (sn_cons sn_var (sn_cons sn_var sn_nil)))))) sn_int))) sn_nil))))))
abbrev s_spared : Stmt := top 52
abbrev N_spared : List Str := ["net", "holders", "giving", "numbers", "found", "left", "k", "house"]
theorem sc_spared : FnScope N_spared ["net", "holders", "giving", "numbers"] (defScope s_spared) := ⟨rfl, rfl, rfl, by decide +kernel, rfl, by decide +kernel, by decide +kernel⟩
def t_spared (K : PySem.W.Frag) : TS := (tSeq (tIfS (tNot (tTr K (tCall (spP 4 (runP 6 m_enough)) [] E0 (tCons (tVar 0) (tCons (tVar 1) (tCons (tVar 2) (tCons (tVar 3) tNil))))))) (tRet (tC .non)) tNext) (tSeq (tAsg (tCall (spP 3 (runP 5 m_comers)) [] E0 (tCons (tVar 0) (tCons (tVar 1) (tCons (tVar 2) tNil)))) (gName 4)) (tSeq (tAsg (tCB (rLstA K) (tCons (tVar 3) tNil)) (gName 5)) (tSeq (tFor (iEnA K (tCons (tOp (rIxA K) (tVar 0) (tC (.int 0))) tNil)) (gTup K 2 (gCons (gName 6) (gCons (gName 7) gNil))) (tAsg (tOp AP.rSub (tOp (rIxA K) (tVar 5) (tVar 6)) (tCB (rMinW K) (tCons (tOp (rIxA K) (tVar 5) (tVar 6)) (tCons (tCall (spP 5 (runP 5 m__least_room)) [] E0 (tCons (tVar 0) (tCons (tVar 4) (tCons (tVar 2) (tCons (tVar 5) (tCons (tVar 7) tNil)))))) tNil)))) (L2.gSub (tVar 5) (tVar 6) rSetL))) (tRet (tCB (rTupA K) (tCons (tVar 5) tNil)))))))
def m_spared : SM := (mSeq (mIfS (mNot (mTr (mCall 4 (runP 6 m_enough) (mCons (mVar 0) (mCons (mVar 1) (mCons (mVar 2) (mCons (mVar 3) mNil))))))) (mRet (mC .none)) mNext) (mSeq (mAsg (mCall 3 (runP 5 m_comers) (mCons (mVar 0) (mCons (mVar 1) (mCons (mVar 2) mNil)))) (mgName 4)) (mSeq (mOwn (mListN (mVar 3)) 5) (mSeq (mFor (mEnum (mCons (mOp gIx (mVar 0) (mC (.int 0))) mNil)) (mgTup 2 (mgCons (mgName 6) (mgCons (mgName 7) mgNil))) (mPutL (mOp gSub (mOp gIx (mVar 5) (mVar 6)) (mCB gMinW (mCons (mOp gIx (mVar 5) (mVar 6)) (mCons (mCallU 5 (runP 5 m__least_room) (mCons (mVar 0) (mCons (mVar 4) (mCons (mVar 2) (mCons (mVar 5) (mCons (mVar 7) mNil)))))) mNil)))) (mVar 5) (mVar 6))) (mRet (mCB gTuple (mCons (mVar 5) mNil)))))))
theorem ss_spared [Gd] (K : PySem.W.Frag) : SnS (t_spared K) m_spared := (ss_seq (ss_if (sn_not (sn_tr (sn_call (sn_cons sn_var (sn_cons sn_var (sn_cons sn_var (sn_cons sn_var sn_nil))))))) (ss_ret sn_non) ss_next) (ss_seq (ss_asg (sn_call (sn_cons sn_var (sn_cons sn_var (sn_cons sn_var sn_nil)))) sg_name) (ss_seq (ss_own (sn_listN sn_var)) (ss_seq (ss_for (si_enum (sn_cons (sn_op r2_ix sn_var sn_int) sn_nil)) (sg_tup (sgs_cons sg_name (sgs_cons sg_name sgs_nil))) (ss_putL (sn_op r2_sub (sn_op r2_ix sn_var sn_var) (sn_cb rc_minW (sn_cons (sn_op r2_ix sn_var sn_var) (sn_cons (sn_callU (sn_cons sn_var (sn_cons sn_var (sn_cons sn_var (sn_cons sn_var (sn_cons sn_var sn_nil)))))) sn_nil)))) sn_var sn_var)) (ss_ret (sn_cb rc_tuple (sn_cons sn_var sn_nil)))))))
abbrev s_fewest_further : Stmt := top 53
abbrev N_fewest_further : List Str := ["net", "holders", "giving", "house"]
theorem sc_fewest_further : FnScope N_fewest_further ["net", "holders", "giving"] (defScope s_fewest_further) := ⟨rfl, rfl, rfl, by decide +kernel, rfl, by decide +kernel, by decide +kernel⟩
def t_fewest_further (K : PySem.W.Frag) : TS := (tSeq (tDrop (tCall (spP 3 (runP 3 m_need_giving)) [] E0 (tCons (tVar 0) (tCons (tVar 1) (tCons (tVar 2) tNil))))) (tRet (tCall (spP 4 (runP 8 m_spared)) [] E0 (tCons (tVar 0) (tCons (tVar 1) (tCons (tVar 2) (tCons (tCB (rTupA K) (tCons (tLc (iAny K (tOp (rIxA K) (tVar 0) (tC (.int 0)))) (gName 3) tYes (tCB (rLenA K) (tCons (tVar 1) tNil)) [3]) tNil)) tNil)))))))
def m_fewest_further : SM := (mSeq (mDrop (mCall 3 (runP 3 m_need_giving) (mCons (mVar 0) (mCons (mVar 1) (mCons (mVar 2) mNil))))) (mRet (mCall 4 (runP 8 m_spared) (mCons (mVar 0) (mCons (mVar 1) (mCons (mVar 2) (mCons (mCB gTuple (mCons (mDat (mLc (mAnyI (mOp gIx (mVar 0) (mC (.int 0)))) (mgName 3) mYes (mCB gLen (mCons (mVar 1) mNil)) [3])) mNil)) mNil)))))))
theorem ss_fewest_further [Gd] (K : PySem.W.Frag) : SnS (t_fewest_further K) m_fewest_further := (ss_seq (ss_drop (sn_call (sn_cons sn_var (sn_cons sn_var (sn_cons sn_var sn_nil))))) (ss_ret (sn_call (sn_cons sn_var (sn_cons sn_var (sn_cons sn_var (sn_cons (sn_cb rc_tuple (sn_cons (sn_dat (sn_lc (si_any (sn_op r2_ix sn_var sn_int)) sg_name (gk_name (by decide)) sn_yes (sn_cb rc_len (sn_cons sn_var sn_nil)))) sn_nil)) sn_nil)))))))
abbrev s__without_room : Stmt := top 59
abbrev N__without_room : List Str := ["net", "found", "giving", "numbers", "house"]
theorem sc__without_room : FnScope N__without_room ["net", "found", "giving", "numbers", "house"] (defScope s__without_room) := ⟨rfl, rfl, rfl, by decide +kernel, rfl, by decide +kernel, by decide +kernel⟩
def t__without_room (K : PySem.W.Frag) : TS := (tRet (tCall (spP 4 (runP 7 m_greatest_set)) [] E0 (tCons (tOp (rIxA K) (tVar 0) (tC (.int 0))) (tCons (tCall (spP 2 (runP 5 m_free_links)) [] E0 (tCons (tVar 0) (tCons (tVar 2) tNil))) (tCons (tCall (spP 3 (runP 5 m__stocks)) [] E0 (tCons (tVar 0) (tCons (tVar 1) (tCons (tVar 3) tNil)))) (tCons (tVar 4) tNil))))))
def m__without_room : SM := (mRet (mCall 4 (runP 7 m_greatest_set) (mCons (mOp gIx (mVar 0) (mC (.int 0))) (mCons (mCall 2 (runP 5 m_free_links) (mCons (mVar 0) (mCons (mVar 2) mNil))) (mCons (mCall 3 (runP 5 m__stocks) (mCons (mVar 0) (mCons (mVar 1) (mCons (mVar 3) mNil)))) (mCons (mVar 4) mNil))))))
theorem ss__without_room [Gd] (K : PySem.W.Frag) : SnS (t__without_room K) m__without_room := (ss_ret (sn_call (sn_cons (sn_op r2_ix sn_var sn_int) (sn_cons (sn_call (sn_cons sn_var (sn_cons sn_var sn_nil))) (sn_cons (sn_call (sn_cons sn_var (sn_cons sn_var (sn_cons sn_var sn_nil)))) (sn_cons sn_var sn_nil))))))
abbrev s_further_copies : Stmt := top 54
abbrev N_further_copies : List Str := ["net", "holders", "giving", "left", "late", "copies", "k", "house", "found", "piece"]
theorem sc_further_copies : FnScope N_further_copies ["net", "holders", "giving"] (defScope s_further_copies) := ⟨rfl, rfl, rfl, by decide +kernel, rfl, by decide +kernel, by decide +kernel⟩
def t_further_copies (K : PySem.W.Frag) : TS := (tSeq (tAsg (tCB (rLstA K) (tCons (tCall (spP 3 (runP 4 m_fewest_further)) [] E0 (tCons (tVar 0) (tCons (tVar 1) (tCons (tVar 2) tNil)))) tNil)) (gName 3)) (tSeq (tAsg (tVar 1) (gName 4)) (tSeq (tAsg (tLst tNil) (gName 5)) (tSeq (tFor (iEnA K (tCons (tOp (rIxA K) (tVar 0) (tC (.int 0))) tNil)) (gTup K 2 (gCons (gName 6) (gCons (gName 7) gNil))) (tWhile (tTest (tOp (rGtW K) (tOp (rIxA K) (tVar 3) (tVar 6)) (tC (.int 0)))) (tSeq (tAsg (tCall (spP 3 (runP 5 m_comers)) [] E0 (tCons (tVar 0) (tCons (tVar 4) (tCons (tVar 2) tNil)))) (gName 8)) (tSeq (tAsg (tOp (rIxA K) (tCall (spP 2 (runP 5 m_lacked_by)) [] E0 (tCons (tVar 8) (tCons (tCall (spP 5 (runP 5 m__without_room)) [] E0 (tCons (tVar 0) (tCons (tVar 8) (tCons (tVar 2) (tCons (tVar 3) (tCons (tVar 7) tNil)))))) tNil))) (tC (.int 0))) (gName 9)) (tSeq (tAsg (tCall (spP 4 (runP 5 m_laid)) [] E0 (tCons (tVar 0) (tCons (tVar 4) (tCons (tVar 9) (tCons (tVar 7) tNil))))) (gName 4)) (tSeq (tDrop (tBM K "list" rAppend (tVar 5) (tCons (tTupF (tCons (tVar 9) (tCons (tVar 7) tNil))) tNil))) (tAsg (tOp AP.rSub (tOp (rIxA K) (tVar 3) (tVar 6)) (tC (.int 1))) (L2.gSub (tVar 3) (tVar 6) rSetL)))))))) (tRet (tCB (rTupA K) (tCons (tCB (rSortX K) (tCons (tVar 5) tNil)) tNil)))))))
def m_further_copies : SM := (mSeq (mOwn (mListN (mCall 3 (runP 4 m_fewest_further) (mCons (mVar 0) (mCons (mVar 1) (mCons (mVar 2) mNil))))) 3) (mSeq (mAsg (mVar 1) (mgName 4)) (mSeq (mOwn (mLstN mNil) 5) (mSeq (mFor (mEnum (mCons (mOp gIx (mVar 0) (mC (.int 0))) mNil)) (mgTup 2 (mgCons (mgName 6) (mgCons (mgName 7) mgNil))) (whileM (mTest (mOp gGtW (mOp gIx (mVar 3) (mVar 6)) (mC (.int 0)))) (mSeq (mAsg (mCall 3 (runP 5 m_comers) (mCons (mVar 0) (mCons (mVar 4) (mCons (mVar 2) mNil)))) (mgName 8)) (mSeq (mAsg (mOp gIx (mCall 2 (runP 5 m_lacked_by) (mCons (mVar 8) (mCons (mCallU 5 (runP 5 m__without_room) (mCons (mVar 0) (mCons (mVar 8) (mCons (mVar 2) (mCons (mVar 3) (mCons (mVar 7) mNil)))))) mNil))) (mC (.int 0))) (mgName 9)) (mSeq (mAsg (mCall 4 (runP 5 m_laid) (mCons (mVar 0) (mCons (mVar 4) (mCons (mVar 9) (mCons (mVar 7) mNil))))) (mgName 4)) (mSeq (mApp (mVar 5) (mTup (mCons (mVar 9) (mCons (mVar 7) mNil)))) (mPutL (mOp gSub (mOp gIx (mVar 3) (mVar 6)) (mC (.int 1))) (mVar 3) (mVar 6)))))) FUEL)) (mRet (mCB gTuple (mCons (mCB gSortedX (mCons (mVar 5) mNil)) mNil)))))))
theorem ss_further_copies [Gd] (K : PySem.W.Frag) : SnS (t_further_copies K) m_further_copies := (ss_seq (ss_own (sn_listN (sn_call (sn_cons sn_var (sn_cons sn_var (sn_cons sn_var sn_nil)))))) (ss_seq (ss_asg sn_var sg_name) (ss_seq (ss_own (sn_lstN sn_nil)) (ss_seq (ss_for (si_enum (sn_cons (sn_op r2_ix sn_var sn_int) sn_nil)) (sg_tup (sgs_cons sg_name (sgs_cons sg_name sgs_nil))) (ss_while FUEL (sn_test (sn_op r2_gtW (sn_op r2_ix sn_var sn_var) sn_int)) (ss_seq (ss_asg (sn_call (sn_cons sn_var (sn_cons sn_var (sn_cons sn_var sn_nil)))) sg_name) (ss_seq (ss_asg (sn_op r2_ix (sn_call (sn_cons sn_var (sn_cons (sn_callU (sn_cons sn_var (sn_cons sn_var (sn_cons sn_var (sn_cons sn_var (sn_cons sn_var sn_nil)))))) sn_nil))) sn_int) sg_name) (ss_seq (ss_asg (sn_call (sn_cons sn_var (sn_cons sn_var (sn_cons sn_var (sn_cons sn_var sn_nil))))) sg_name) (ss_seq (ss_app sn_var (sn_tup (sn_cons sn_var (sn_cons sn_var sn_nil)))) (ss_putL (sn_op r2_sub (sn_op r2_ix sn_var sn_var) sn_int) sn_var sn_var))))))) (ss_ret (sn_cb rc_tuple (sn_cons (sn_cb rc_sortedX (sn_cons sn_var sn_nil)) sn_nil)))))))
abbrev s_apart_sets : Stmt := top 55
abbrev N_apart_sets : List Str := ["net", "holders", "giving", "numbers", "found", "house", "number"]
theorem sc_apart_sets : FnScope N_apart_sets ["net", "holders", "giving"] (defScope s_apart_sets) := ⟨rfl, rfl, rfl, by decide +kernel, rfl, by decide +kernel, by decide +kernel⟩
def t_apart_sets (K : PySem.W.Frag) : TS := (tSeq (tAsg (tCall (spP 3 (runP 4 m_fewest_further)) [] E0 (tCons (tVar 0) (tCons (tVar 1) (tCons (tVar 2) tNil)))) (gName 3)) (tSeq (tAsg (tCall (spP 3 (runP 5 m_comers)) [] E0 (tCons (tVar 0) (tCons (tVar 1) (tCons (tVar 2) tNil)))) (gName 4)) (tRet (tCB (rTupA K) (tCons (tSS K (tCons (tLc (iZipX K (tCons (tOp (rIxA K) (tVar 0) (tC (.int 0))) (tCons (tVar 3) tNil))) (gTup K 2 (gCons (gName 5) (gCons (gName 6) gNil))) (tTest (tOp (rGtW K) (tVar 6) (tC (.int 0)))) (tCall (spP 5 (runP 5 m__without_room)) [] E0 (tCons (tVar 0) (tCons (tVar 4) (tCons (tVar 2) (tCons (tVar 3) (tCons (tVar 5) tNil)))))) [5, 6]) tNil)) tNil)))))
def m_apart_sets : SM := (mSeq (mAsg (mCall 3 (runP 4 m_fewest_further) (mCons (mVar 0) (mCons (mVar 1) (mCons (mVar 2) mNil)))) (mgName 3)) (mSeq (mAsg (mCall 3 (runP 5 m_comers) (mCons (mVar 0) (mCons (mVar 1) (mCons (mVar 2) mNil)))) (mgName 4)) (mRet (mCB gTuple (mCons (mCB gSS (mCons (mDat (mLc (mZipX (mCons (mOp gIx (mVar 0) (mC (.int 0))) (mCons (mVar 3) mNil))) (mgTup 2 (mgCons (mgName 5) (mgCons (mgName 6) mgNil))) (mTest (mOp gGtW (mVar 6) (mC (.int 0)))) (mCall 5 (runP 5 m__without_room) (mCons (mVar 0) (mCons (mVar 4) (mCons (mVar 2) (mCons (mVar 3) (mCons (mVar 5) mNil)))))) [5, 6])) mNil)) mNil)))))
theorem ss_apart_sets [Gd] (K : PySem.W.Frag) : SnS (t_apart_sets K) m_apart_sets := (ss_seq (ss_asg (sn_call (sn_cons sn_var (sn_cons sn_var (sn_cons sn_var sn_nil)))) sg_name) (ss_seq (ss_asg (sn_call (sn_cons sn_var (sn_cons sn_var (sn_cons sn_var sn_nil)))) sg_name) (ss_ret (sn_cb rc_tuple (sn_cons (sn_tSS (sn_cons (sn_dat (sn_lc (si_zipX (sn_cons (sn_op r2_ix sn_var sn_int) (sn_cons sn_var sn_nil))) (sg_tup (sgs_cons sg_name (sgs_cons sg_name sgs_nil))) (gk_tup (gks_cons (gk_name (by decide)) (gks_cons (gk_name (by decide)) gks_nil))) (sn_test (sn_op r2_gtW sn_var sn_int)) (sn_call (sn_cons sn_var (sn_cons sn_var (sn_cons sn_var (sn_cons sn_var (sn_cons sn_var sn_nil)))))))) sn_nil)) sn_nil)))))
@[reducible] instance gInst : Gd := gT
abbrev s__law_feed : Stmt := top 61
abbrev N__law_feed : List Str := ["_law_script", "_law_cell"]
theorem sc__law_feed : FnScope N__law_feed ["_law_script"] (defScope s__law_feed) := ⟨rfl, rfl, rfl, by decide +kernel, rfl, by decide +kernel, by decide +kernel⟩
abbrev s__law_draw : Stmt := top 62
abbrev N__law_draw : List Str := ["_law_feed_here", "_law_many_here", "_law_cell", "_law_mixed", "_law_digit", "_law_k", "_law_cells"]
theorem sc__law_draw : FnScope N__law_draw ["_law_feed_here", "_law_many_here"] (defScope s__law_draw) := ⟨rfl, rfl, rfl, by decide +kernel, rfl, by decide +kernel, by decide +kernel⟩
def t__law_draw (K : PySem.W.Frag) : TS := (tSeq (sDPut (tVar 0) (tC (.str (Str.ofString "drawn"))) (tOp (rAddU K) (tOp (rIxA K) (tVar 0) (tC (.str (Str.ofString "drawn")))) (tC (.int 1)))) (tSeq (tIfS (tTest (tOp rGtU (tOp (rIxA K) (tVar 0) (tC (.str (Str.ofString "left")))) (tC (.int 0)))) (tSeq (tAsg (tOp rMod (tCB rIntA (tCons (tOp (rIxA K) (tVar 0) (tC (.str (Str.ofString "left")))) tNil)) (tVar 1)) (gName 4)) (tSeq (sDPut (tVar 0) (tC (.str (Str.ofString "left"))) (tOp rDiv (tOp (rIxA K) (tVar 0) (tC (.str (Str.ofString "left")))) (tVar 1))) (tRet (tVar 4)))) tNext) (tSeq (tPar 5 6 (tCons (tOp (rIxA K) (tVar 0) (tC (.str (Str.ofString "next")))) (tCons (tOp (rIxA K) (tVar 0) (tC (.str (Str.ofString "cells")))) tNil))) (tSeq (sDPut (tVar 0) (tC (.str (Str.ofString "next"))) (tOp (rAddU K) (tVar 5) (tC (.int 1)))) (tSeq (tAsg (tIf (tTest (tOp (rNeU K) (tVar 6) (tLst tNil))) (tOp (rIxA K) (tVar 6) (tOp rMod (tCB rIntA (tCons (tVar 5) tNil)) (tCB (rLenA K) (tCons (tVar 6) tNil)))) (tC (.int 10366))) (gName 2)) (tSeq (tIfS (tAnd (tTest (tOp rGeU (tVar 2) (tOp rPow (tC (.int 10)) (tC (.int 18))))) (tTest (tOp rLtU (tVar 5) (tCB (rLenA K) (tCons (tVar 6) tNil))))) (tSeq (sDPut (tVar 0) (tC (.str (Str.ofString "left"))) (tOp rDiv (tVar 2) (tVar 1))) (tRet (tOp rMod (tCB rIntA (tCons (tVar 2) tNil)) (tVar 1)))) tNext) (tSeq (tAsg (tOp rMod (tCB rIntA (tCons (tOp (rAddU K) (tOp (rAddU K) (tOp rMod (tCB rIntA (tCons (tVar 2) tNil)) (tC (.int 1000311157))) (tOp rMul (tC (.int 91062)) (tOp (rIxA K) (tVar 0) (tC (.str (Str.ofString "drawn")))))) (tC (.int 616))) tNil)) (tC (.int 2147466589))) (gName 3)) (tSeq (tAsg (tOp rMod (tCB rIntA (tCons (tOp (rAddU K) (tOp (rAddU K) (tOp rMul (tVar 3) (tVar 3)) (tOp rMul (tC (.int 1104446)) (tOp (rIxA K) (tVar 0) (tC (.str (Str.ofString "drawn")))))) (tC (.int 654))) tNil)) (tC (.int 2147466547))) (gName 3)) (tRet (tOp rMod (tCB rIntA (tCons (tOp rDiv (tOp rMod (tCB rIntA (tCons (tOp (rAddU K) (tOp rMul (tVar 3) (tVar 3)) (tOp rMul (tC (.int 762)) (tVar 3))) tNil)) (tC (.int 2147466539))) (tC (.int 32))) tNil)) (tVar 1)))))))))))
def m__law_draw : SM := (mSeq (mPut (mOp gAddU (mOp gIx (mVar 0) (mC (.str (Str.ofString "drawn")))) (mC (.int 1))) (mVar 0) (mC (.str (Str.ofString "drawn")))) (mSeq (mIfS (mTest (mOp gGtU (mOp gIx (mVar 0) (mC (.str (Str.ofString "left")))) (mC (.int 0)))) (mSeq (mAsg (mOp gMod (mCB gInt (mCons (mOp gIx (mVar 0) (mC (.str (Str.ofString "left")))) mNil)) (mVar 1)) (mgName 4)) (mSeq (mPut (mOp gDiv (mOp gIx (mVar 0) (mC (.str (Str.ofString "left")))) (mVar 1)) (mVar 0) (mC (.str (Str.ofString "left")))) (mRet (mVar 4)))) mNext) (mSeq (mPar 5 6 (mCons (mOp gIx (mVar 0) (mC (.str (Str.ofString "next")))) (mCons (mOp gIx (mVar 0) (mC (.str (Str.ofString "cells")))) mNil))) (mSeq (mPut (mOp gAddU (mVar 5) (mC (.int 1))) (mVar 0) (mC (.str (Str.ofString "next")))) (mSeq (mAsg (mIf (mTest (mOp gNe (mVar 6) (mLst mNil))) (mOp gIx (mVar 6) (mOp gMod (mCB gInt (mCons (mVar 5) mNil)) (mCB gLen (mCons (mVar 6) mNil)))) (mC (.int 10366))) (mgName 2)) (mSeq (mIfS (mAnd (mTest (mOp gGeU (mVar 2) (mOp gPow (mC (.int 10)) (mC (.int 18))))) (mTest (mOp gLtU (mVar 5) (mCB gLen (mCons (mVar 6) mNil))))) (mSeq (mPut (mOp gDiv (mVar 2) (mVar 1)) (mVar 0) (mC (.str (Str.ofString "left")))) (mRet (mOp gMod (mCB gInt (mCons (mVar 2) mNil)) (mVar 1)))) mNext) (mSeq (mAsg (mOp gMod (mCB gInt (mCons (mOp gAddU (mOp gAddU (mOp gMod (mCB gInt (mCons (mVar 2) mNil)) (mC (.int 1000311157))) (mOp gMul (mC (.int 91062)) (mOp gIx (mVar 0) (mC (.str (Str.ofString "drawn")))))) (mC (.int 616))) mNil)) (mC (.int 2147466589))) (mgName 3)) (mSeq (mAsg (mOp gMod (mCB gInt (mCons (mOp gAddU (mOp gAddU (mOp gMul (mVar 3) (mVar 3)) (mOp gMul (mC (.int 1104446)) (mOp gIx (mVar 0) (mC (.str (Str.ofString "drawn")))))) (mC (.int 654))) mNil)) (mC (.int 2147466547))) (mgName 3)) (mRet (mOp gMod (mCB gInt (mCons (mOp gDiv (mOp gMod (mCB gInt (mCons (mOp gAddU (mOp gMul (mVar 3) (mVar 3)) (mOp gMul (mC (.int 762)) (mVar 3))) mNil)) (mC (.int 2147466539))) (mC (.int 32))) mNil)) (mVar 1)))))))))))
theorem ss__law_draw (K : PySem.W.Frag) : SnS (t__law_draw K) m__law_draw := (ss_seq (ss_put (sn_op r2_addU (sn_op r2_ix sn_var sn_str) sn_int) sn_var sn_str) (ss_seq (ss_if (sn_test (sn_op r2_gtU (sn_op r2_ix sn_var sn_str) sn_int)) (ss_seq (ss_asg (sn_op r2_mod (sn_cb rc_int (sn_cons (sn_op r2_ix sn_var sn_str) sn_nil)) sn_var) sg_name) (ss_seq (ss_put (sn_op r2_div (sn_op r2_ix sn_var sn_str) sn_var) sn_var sn_str) (ss_ret sn_var))) ss_next) (ss_seq (ss_par (sn_cons (sn_op r2_ix sn_var sn_str) (sn_cons (sn_op r2_ix sn_var sn_str) sn_nil))) (ss_seq (ss_put (sn_op r2_addU sn_var sn_int) sn_var sn_str) (ss_seq (ss_asg (sn_if (sn_test (sn_op r2_neU sn_var (sn_lst sn_nil))) (sn_op r2_ix sn_var (sn_op r2_mod (sn_cb rc_int (sn_cons sn_var sn_nil)) (sn_cb rc_len (sn_cons sn_var sn_nil)))) sn_int) sg_name) (ss_seq (ss_if (sn_and (sn_test (sn_op r2_geU sn_var (sn_op r2_pow sn_int sn_int))) (sn_test (sn_op r2_ltU sn_var (sn_cb rc_len (sn_cons sn_var sn_nil))))) (ss_seq (ss_put (sn_op r2_div sn_var sn_var) sn_var sn_str) (ss_ret (sn_op r2_mod (sn_cb rc_int (sn_cons sn_var sn_nil)) sn_var))) ss_next) (ss_seq (ss_asg (sn_op r2_mod (sn_cb rc_int (sn_cons (sn_op r2_addU (sn_op r2_addU (sn_op r2_mod (sn_cb rc_int (sn_cons sn_var sn_nil)) sn_int) (sn_op r2_mul sn_int (sn_op r2_ix sn_var sn_str))) sn_int) sn_nil)) sn_int) sg_name) (ss_seq (ss_asg (sn_op r2_mod (sn_cb rc_int (sn_cons (sn_op r2_addU (sn_op r2_addU (sn_op r2_mul sn_var sn_var) (sn_op r2_mul sn_int (sn_op r2_ix sn_var sn_str))) sn_int) sn_nil)) sn_int) sg_name) (ss_ret (sn_op r2_mod (sn_cb rc_int (sn_cons (sn_op r2_div (sn_op r2_mod (sn_cb rc_int (sn_cons (sn_op r2_addU (sn_op r2_mul sn_var sn_var) (sn_op r2_mul sn_int sn_var)) sn_nil)) sn_int) sn_int) sn_nil)) sn_var))))))))))
abbrev s__law_any : Stmt := top 63
abbrev N__law_any : List Str := ["_law_feed_here", "_law_some"]
theorem sc__law_any : FnScope N__law_any ["_law_feed_here", "_law_some"] (defScope s__law_any) := ⟨rfl, rfl, rfl, by decide +kernel, rfl, by decide +kernel, by decide +kernel⟩
def t__law_any (K : PySem.W.Frag) : TS := (tRet (tOp (rIxA K) (tVar 1) (tCall (spF 2 (runF 7 m__law_draw)) [] E0 (tCons (tVar 0) (tCons (tCB (rLenA K) (tCons (tVar 1) tNil)) tNil)))))
def m__law_any : SM := (mRet (mOp gIx (mVar 1) (mCallF 2 (runF 7 m__law_draw) (mCons (mVar 0) (mCons (mCB gLen (mCons (mVar 1) mNil)) mNil)))))
theorem ss__law_any (K : PySem.W.Frag) : SnS (t__law_any K) m__law_any := (ss_ret (sn_op r2_ix sn_var (sn_callF (sn_cons sn_var (sn_cons (sn_cb rc_len (sn_cons sn_var sn_nil)) sn_nil)))))
abbrev s__law_names : Stmt := top 64
abbrev N__law_names : List Str := ["_law_feed_here", "_law_some"]
theorem sc__law_names : FnScope N__law_names ["_law_feed_here"] (defScope s__law_names) := ⟨rfl, rfl, rfl, by decide +kernel, rfl, by decide +kernel, by decide +kernel⟩
def t__law_names (K : PySem.W.Frag) : TS := (tSeq (tAsg (tLst (tCons (tLst (tCons (tC (.str (Str.ofString "ann"))) (tCons (tC (.str (Str.ofString "bea"))) (tCons (tC (.str (Str.ofString "cyd"))) (tCons (tC (.str (Str.ofString "dov"))) (tCons (tC (.str (Str.ofString "eve"))) (tCons (tC (.str (Str.ofString "fio"))) tNil))))))) (tCons (tLst (tCons (tC (.str (Str.ofString "houses"))) (tCons (tC (.str (Str.ofString "none"))) (tCons (tC (.str (Str.ofString "short"))) (tCons (tC (.str (Str.ofString "wire"))) (tCons (tC (.str (Str.ofString "piece"))) (tCons (tC (.str (Str.ofString "further"))) tNil))))))) tNil))) (gName 1)) (tSeq (tAsg (tOp (rAddU K) (tVar 1) (tLst (tCons (tLst (tCons (tC (.str (Str.ofString "a"))) (tCons (tC (.str (Str.ofString "ab"))) (tCons (tC (.str (Str.ofString "abc"))) (tCons (tC (.str (Str.ofString "b"))) (tCons (tC (.str (Str.ofString "zz"))) (tCons (tC (.str (Str.ofString "zzzzzzzz"))) tNil))))))) (tCons (tLst (tCons (tC (.str (Str.ofString "k"))) (tCons (tC (.str (Str.ofString "j"))) (tCons (tC (.str (Str.ofString "m"))) (tCons (tC (.str (Str.ofString "l"))) (tCons (tC (.str (Str.ofString "n"))) (tCons (tC (.str (Str.ofString "o"))) tNil))))))) tNil)))) (gName 1)) (tSeq (tAsg (tOp (rAddU K) (tVar 1) (tLst (tCons (tLst (tCons (tC (.str (Str.ofString "end"))) (tCons (tC (.str (Str.ofString "outside"))) (tCons (tC (.str (Str.ofString "sink"))) (tCons (tC (.str (Str.ofString "source"))) (tCons (tC (.str (Str.ofString "start"))) (tCons (tC (.str (Str.ofString "target"))) tNil))))))) (tCons (tLst (tCons (tC (.str (Str.ofString "g"))) (tCons (tC (.str (Str.ofString "k"))) (tCons (tC (.str (Str.ofString "n"))) (tCons (tC (.str (Str.ofString "s"))) (tCons (tC (.str (Str.ofString "t"))) (tCons (tC (.str (Str.ofString "u"))) tNil))))))) tNil)))) (gName 1)) (tRet (tCB (rSortX K) (tCons (tCall (spF 2 (runF 2 m__law_any)) [] E0 (tCons (tVar 0) (tCons (tVar 1) tNil))) tNil))))))
def m__law_names : SM := (mSeq (mAsg (mLst (mCons (mLst (mCons (mC (.str (Str.ofString "ann"))) (mCons (mC (.str (Str.ofString "bea"))) (mCons (mC (.str (Str.ofString "cyd"))) (mCons (mC (.str (Str.ofString "dov"))) (mCons (mC (.str (Str.ofString "eve"))) (mCons (mC (.str (Str.ofString "fio"))) mNil))))))) (mCons (mLst (mCons (mC (.str (Str.ofString "houses"))) (mCons (mC (.str (Str.ofString "none"))) (mCons (mC (.str (Str.ofString "short"))) (mCons (mC (.str (Str.ofString "wire"))) (mCons (mC (.str (Str.ofString "piece"))) (mCons (mC (.str (Str.ofString "further"))) mNil))))))) mNil))) (mgName 1)) (mSeq (mAsg (mOp gAddU (mVar 1) (mLst (mCons (mLst (mCons (mC (.str (Str.ofString "a"))) (mCons (mC (.str (Str.ofString "ab"))) (mCons (mC (.str (Str.ofString "abc"))) (mCons (mC (.str (Str.ofString "b"))) (mCons (mC (.str (Str.ofString "zz"))) (mCons (mC (.str (Str.ofString "zzzzzzzz"))) mNil))))))) (mCons (mLst (mCons (mC (.str (Str.ofString "k"))) (mCons (mC (.str (Str.ofString "j"))) (mCons (mC (.str (Str.ofString "m"))) (mCons (mC (.str (Str.ofString "l"))) (mCons (mC (.str (Str.ofString "n"))) (mCons (mC (.str (Str.ofString "o"))) mNil))))))) mNil)))) (mgName 1)) (mSeq (mAsg (mOp gAddU (mVar 1) (mLst (mCons (mLst (mCons (mC (.str (Str.ofString "end"))) (mCons (mC (.str (Str.ofString "outside"))) (mCons (mC (.str (Str.ofString "sink"))) (mCons (mC (.str (Str.ofString "source"))) (mCons (mC (.str (Str.ofString "start"))) (mCons (mC (.str (Str.ofString "target"))) mNil))))))) (mCons (mLst (mCons (mC (.str (Str.ofString "g"))) (mCons (mC (.str (Str.ofString "k"))) (mCons (mC (.str (Str.ofString "n"))) (mCons (mC (.str (Str.ofString "s"))) (mCons (mC (.str (Str.ofString "t"))) (mCons (mC (.str (Str.ofString "u"))) mNil))))))) mNil)))) (mgName 1)) (mRet (mCB gSortedX (mCons (mCallF 2 (runF 2 m__law_any) (mCons (mVar 0) (mCons (mVar 1) mNil))) mNil))))))
theorem ss__law_names (K : PySem.W.Frag) : SnS (t__law_names K) m__law_names := (ss_seq (ss_asg (sn_lst (sn_cons (sn_lst (sn_cons sn_str (sn_cons sn_str (sn_cons sn_str (sn_cons sn_str (sn_cons sn_str (sn_cons sn_str sn_nil))))))) (sn_cons (sn_lst (sn_cons sn_str (sn_cons sn_str (sn_cons sn_str (sn_cons sn_str (sn_cons sn_str (sn_cons sn_str sn_nil))))))) sn_nil))) sg_name) (ss_seq (ss_asg (sn_op r2_addU sn_var (sn_lst (sn_cons (sn_lst (sn_cons sn_str (sn_cons sn_str (sn_cons sn_str (sn_cons sn_str (sn_cons sn_str (sn_cons sn_str sn_nil))))))) (sn_cons (sn_lst (sn_cons sn_str (sn_cons sn_str (sn_cons sn_str (sn_cons sn_str (sn_cons sn_str (sn_cons sn_str sn_nil))))))) sn_nil)))) sg_name) (ss_seq (ss_asg (sn_op r2_addU sn_var (sn_lst (sn_cons (sn_lst (sn_cons sn_str (sn_cons sn_str (sn_cons sn_str (sn_cons sn_str (sn_cons sn_str (sn_cons sn_str sn_nil))))))) (sn_cons (sn_lst (sn_cons sn_str (sn_cons sn_str (sn_cons sn_str (sn_cons sn_str (sn_cons sn_str (sn_cons sn_str sn_nil))))))) sn_nil)))) sg_name) (ss_ret (sn_cb rc_sortedX (sn_cons (sn_callF (sn_cons sn_var (sn_cons sn_var sn_nil))) sn_nil))))))
abbrev s__law_set : Stmt := top 65
abbrev N__law_set : List Str := ["_law_names_here", "_law_letters", "_law_letter"]
theorem sc__law_set : FnScope N__law_set ["_law_names_here", "_law_letters"] (defScope s__law_set) := ⟨rfl, rfl, rfl, by decide +kernel, rfl, by decide +kernel, by decide +kernel⟩
def t__law_set (K : PySem.W.Frag) : TS := (tRet (tCB (rTupA K) (tCons (tLc (iAny K (tVar 1)) (gName 2) tYes (tOp (rIxA K) (tVar 0) (tM1 rSIdx (tC (.str (Str.ofString "abcdef"))) (tVar 2))) [2]) tNil)))
def m__law_set : SM := (mRet (mCB gTuple (mCons (mDat (mLc (mAnyI (mVar 1)) (mgName 2) mYes (mOp gIx (mVar 0) (mM1 gSIdx (mC (.str (Str.ofString "abcdef"))) (mVar 2))) [2])) mNil)))
theorem ss__law_set (K : PySem.W.Frag) : SnS (t__law_set K) m__law_set := (ss_ret (sn_cb rc_tuple (sn_cons (sn_dat (sn_lc (si_any sn_var) sg_name (gk_name (by decide)) sn_yes (sn_op r2_ix sn_var (sn_m1 rm_sidx sn_str sn_var)))) sn_nil)))
abbrev s__law_scene : Stmt := top 66
abbrev N__law_scene : List Str := ["_law_names_here", "_law_many_here", "_law_lanes", "_law_first", "_law_pairs", "_law_firsts", "_law_word"]
theorem sc__law_scene : FnScope N__law_scene ["_law_names_here", "_law_many_here", "_law_lanes", "_law_first"] (defScope s__law_scene) := ⟨rfl, rfl, rfl, by decide +kernel, rfl, by decide +kernel, by decide +kernel⟩
def t__law_scene (K : PySem.W.Frag) : TS := (tSeq (tAsg (tLc (iAny K (tM0 rWords (tVar 2))) (gName 6) tYes (tCall (spP 2 (runP 3 m__law_set)) [] E0 (tCons (tVar 0) (tCons (tVar 6) tNil))) [6]) (gName 4)) (tSeq (tAsg (tLc (iAny K (tM0 rWords (tVar 3))) (gName 6) tYes (tCall (spP 2 (runP 3 m__law_set)) [] E0 (tCons (tVar 0) (tCons (tVar 6) tNil))) [6]) (gName 5)) (tRet (tTupF (tCons (tTupF (tCons (tCB (rTupA K) (tCons (tSl (rSlU K) (tVar 0) tNoPart (tPart (tVar 1))) tNil)) (tCons (tCB (rTupA K) (tCons (tVar 4) tNil)) tNil))) (tCons (tCB (rTupA K) (tCons (tVar 5) tNil)) tNil))))))
def m__law_scene : SM := (mSeq (mAsg (mDat (mLc (mAnyI (mM0 gWords (mVar 2))) (mgName 6) mYes (mCall 2 (runP 3 m__law_set) (mCons (mVar 0) (mCons (mVar 6) mNil))) [6])) (mgName 4)) (mSeq (mAsg (mDat (mLc (mAnyI (mM0 gWords (mVar 3))) (mgName 6) mYes (mCall 2 (runP 3 m__law_set) (mCons (mVar 0) (mCons (mVar 6) mNil))) [6])) (mgName 5)) (mRet (mTup (mCons (mTup (mCons (mCB gTuple (mCons (mSl gSl (mVar 0) mNoPart (mPart (mVar 1))) mNil)) (mCons (mCB gTuple (mCons (mVar 4) mNil)) mNil))) (mCons (mCB gTuple (mCons (mVar 5) mNil)) mNil))))))
theorem ss__law_scene (K : PySem.W.Frag) : SnS (t__law_scene K) m__law_scene := (ss_seq (ss_asg (sn_dat (sn_lc (si_any (sn_m0 rm_words sn_var)) sg_name (gk_name (by decide)) sn_yes (sn_call (sn_cons sn_var (sn_cons sn_var sn_nil))))) sg_name) (ss_seq (ss_asg (sn_dat (sn_lc (si_any (sn_m0 rm_words sn_var)) sg_name (gk_name (by decide)) sn_yes (sn_call (sn_cons sn_var (sn_cons sn_var sn_nil))))) sg_name) (ss_ret (sn_tup (sn_cons (sn_tup (sn_cons (sn_cb rc_tuple (sn_cons (sn_sl rs_U sn_var sn_nopart (sn_part sn_var)) sn_nil)) (sn_cons (sn_cb rc_tuple (sn_cons sn_var sn_nil)) sn_nil))) (sn_cons (sn_cb rc_tuple (sn_cons sn_var sn_nil)) sn_nil))))))
abbrev s__law_few : Stmt := top 67
abbrev N__law_few : List Str := ["_law_rows", "_law_n", "_law_four"]
theorem sc__law_few : FnScope N__law_few [] (defScope s__law_few) := ⟨rfl, rfl, rfl, by decide +kernel, rfl, by decide +kernel, by decide +kernel⟩
def t__law_few (K : PySem.W.Frag) : TS := (tSeq (tPar 1 2 (tCons (tUn rNeg (tC (.int 1))) (tCons (tLst (tCons (tC (.str (Str.ofString "0b"))) (tCons (tC (.str (Str.ofString "0c"))) (tCons (tC (.str (Str.ofString "1b"))) (tCons (tC (.str (Str.ofString "1c"))) tNil))))) tNil))) (tSeq (tAsg (tLst (tCons (tTupF (tCons (tC (.int 3)) (tCons (tC (.str (Str.ofString "ab bc bc cb"))) (tCons (tC (.str (Str.ofString "a a"))) (tCons (tTupF (tCons (tVar 1) (tCons (tVar 1) (tCons (tVar 1) (tCons (tVar 1) tNil))))) (tCons (tLst (tCons (tC (.str (Str.ofString "010"))) (tCons (tC (.str (Str.ofString "001"))) tNil))) (tCons (tVar 2) (tCons (tLst (tCons (tC (.str (Str.ofString "bc"))) tNil)) tNil)))))))) tNil)) (gName 0)) (tSeq (tDrop (tBM K "list" rAppend (tVar 0) (tCons (tTupF (tCons (tC (.int 3)) (tCons (tC (.str (Str.ofString "ab ac bc cb"))) (tCons (tC (.str (Str.ofString "a a"))) (tCons (tTupF (tCons (tC (.int 0)) (tCons (tC (.int 0)) (tCons (tVar 1) (tCons (tVar 1) tNil))))) (tCons (tLst (tCons (tC (.str (Str.ofString "010"))) (tCons (tC (.str (Str.ofString "001"))) tNil))) (tCons (tLst (tCons (tC (.str (Str.ofString "1b"))) (tCons (tC (.str (Str.ofString "1c"))) tNil))) (tCons (tLst (tCons (tC (.str (Str.ofString "bc"))) tNil)) tNil)))))))) tNil))) (tSeq (tDrop (tBM K "list" rAppend (tVar 0) (tCons (tTupF (tCons (tC (.int 3)) (tCons (tC (.str (Str.ofString "ab ac bc cb"))) (tCons (tC (.str (Str.ofString "a a"))) (tCons (tTupF (tCons (tC (.int 0)) (tCons (tVar 1) (tCons (tVar 1) (tCons (tVar 1) tNil))))) (tCons (tLst (tCons (tC (.str (Str.ofString "000"))) tNil)) (tCons (tLst (tCons (tC (.str (Str.ofString ""))) tNil)) (tCons (tLst (tCons (tC (.str (Str.ofString ""))) tNil)) tNil)))))))) tNil))) (tSeq (tDrop (tBM K "list" rAppend (tVar 0) (tCons (tTupF (tCons (tC (.int 3)) (tCons (tC (.str (Str.ofString "ab ac bc cb"))) (tCons (tC (.str (Str.ofString "a a"))) (tCons (tTupF (tCons (tC (.int 0)) (tCons (tC (.int 1)) (tCons (tC (.int 0)) (tCons (tC (.int 1)) tNil))))) (tCons (tLst (tCons (tC (.str (Str.ofString "000"))) tNil)) (tCons (tLst (tCons (tC (.str (Str.ofString ""))) tNil)) (tCons (tLst (tCons (tC (.str (Str.ofString ""))) tNil)) tNil)))))))) tNil))) (tSeq (tDrop (tBM K "list" rAppend (tVar 0) (tCons (tTupF (tCons (tC (.int 3)) (tCons (tC (.str (Str.ofString "bc bc cb ab"))) (tCons (tC (.str (Str.ofString "a a"))) (tCons (tTupF (tCons (tVar 1) (tCons (tVar 1) (tCons (tVar 1) (tCons (tVar 1) tNil))))) (tCons (tLst (tCons (tC (.str (Str.ofString "010"))) (tCons (tC (.str (Str.ofString "001"))) tNil))) (tCons (tVar 2) (tCons (tLst (tCons (tC (.str (Str.ofString "bc"))) tNil)) tNil)))))))) tNil))) (tSeq (tDrop (tBM K "list" rAppend (tVar 0) (tCons (tTupF (tCons (tC (.int 1)) (tCons (tC (.str (Str.ofString ""))) (tCons (tC (.str (Str.ofString "a"))) (tCons (tTupF tNil) (tCons (tLst (tCons (tC (.str (Str.ofString "0"))) tNil)) (tCons (tLst (tCons (tC (.str (Str.ofString ""))) tNil)) (tCons (tLst (tCons (tC (.str (Str.ofString ""))) tNil)) tNil)))))))) tNil))) (tSeq (tDrop (tBM K "list" rAppend (tVar 0) (tCons (tTupF (tCons (tC (.int 2)) (tCons (tC (.str (Str.ofString "ab"))) (tCons (tC (.str (Str.ofString ""))) (tCons (tTupF (tCons (tVar 1) tNil)) (tCons (tLst (tCons (tC (.str (Str.ofString "00"))) tNil)) (tCons (tLst (tCons (tC (.str (Str.ofString ""))) tNil)) (tCons (tLst (tCons (tC (.str (Str.ofString ""))) tNil)) tNil)))))))) tNil))) (tRet (tVar 0))))))))))
def m__law_few : SM := (mSeq (mPar 1 2 (mCons (mUn gNeg (mC (.int 1))) (mCons (mLst (mCons (mC (.str (Str.ofString "0b"))) (mCons (mC (.str (Str.ofString "0c"))) (mCons (mC (.str (Str.ofString "1b"))) (mCons (mC (.str (Str.ofString "1c"))) mNil))))) mNil))) (mSeq (mOwn (mLstN (mCons (mTup (mCons (mC (.int 3)) (mCons (mC (.str (Str.ofString "ab bc bc cb"))) (mCons (mC (.str (Str.ofString "a a"))) (mCons (mTup (mCons (mVar 1) (mCons (mVar 1) (mCons (mVar 1) (mCons (mVar 1) mNil))))) (mCons (mLst (mCons (mC (.str (Str.ofString "010"))) (mCons (mC (.str (Str.ofString "001"))) mNil))) (mCons (mVar 2) (mCons (mLst (mCons (mC (.str (Str.ofString "bc"))) mNil)) mNil)))))))) mNil)) 0) (mSeq (mApp (mVar 0) (mTup (mCons (mC (.int 3)) (mCons (mC (.str (Str.ofString "ab ac bc cb"))) (mCons (mC (.str (Str.ofString "a a"))) (mCons (mTup (mCons (mC (.int 0)) (mCons (mC (.int 0)) (mCons (mVar 1) (mCons (mVar 1) mNil))))) (mCons (mLst (mCons (mC (.str (Str.ofString "010"))) (mCons (mC (.str (Str.ofString "001"))) mNil))) (mCons (mLst (mCons (mC (.str (Str.ofString "1b"))) (mCons (mC (.str (Str.ofString "1c"))) mNil))) (mCons (mLst (mCons (mC (.str (Str.ofString "bc"))) mNil)) mNil))))))))) (mSeq (mApp (mVar 0) (mTup (mCons (mC (.int 3)) (mCons (mC (.str (Str.ofString "ab ac bc cb"))) (mCons (mC (.str (Str.ofString "a a"))) (mCons (mTup (mCons (mC (.int 0)) (mCons (mVar 1) (mCons (mVar 1) (mCons (mVar 1) mNil))))) (mCons (mLst (mCons (mC (.str (Str.ofString "000"))) mNil)) (mCons (mLst (mCons (mC (.str (Str.ofString ""))) mNil)) (mCons (mLst (mCons (mC (.str (Str.ofString ""))) mNil)) mNil))))))))) (mSeq (mApp (mVar 0) (mTup (mCons (mC (.int 3)) (mCons (mC (.str (Str.ofString "ab ac bc cb"))) (mCons (mC (.str (Str.ofString "a a"))) (mCons (mTup (mCons (mC (.int 0)) (mCons (mC (.int 1)) (mCons (mC (.int 0)) (mCons (mC (.int 1)) mNil))))) (mCons (mLst (mCons (mC (.str (Str.ofString "000"))) mNil)) (mCons (mLst (mCons (mC (.str (Str.ofString ""))) mNil)) (mCons (mLst (mCons (mC (.str (Str.ofString ""))) mNil)) mNil))))))))) (mSeq (mApp (mVar 0) (mTup (mCons (mC (.int 3)) (mCons (mC (.str (Str.ofString "bc bc cb ab"))) (mCons (mC (.str (Str.ofString "a a"))) (mCons (mTup (mCons (mVar 1) (mCons (mVar 1) (mCons (mVar 1) (mCons (mVar 1) mNil))))) (mCons (mLst (mCons (mC (.str (Str.ofString "010"))) (mCons (mC (.str (Str.ofString "001"))) mNil))) (mCons (mVar 2) (mCons (mLst (mCons (mC (.str (Str.ofString "bc"))) mNil)) mNil))))))))) (mSeq (mApp (mVar 0) (mTup (mCons (mC (.int 1)) (mCons (mC (.str (Str.ofString ""))) (mCons (mC (.str (Str.ofString "a"))) (mCons (mTup mNil) (mCons (mLst (mCons (mC (.str (Str.ofString "0"))) mNil)) (mCons (mLst (mCons (mC (.str (Str.ofString ""))) mNil)) (mCons (mLst (mCons (mC (.str (Str.ofString ""))) mNil)) mNil))))))))) (mSeq (mApp (mVar 0) (mTup (mCons (mC (.int 2)) (mCons (mC (.str (Str.ofString "ab"))) (mCons (mC (.str (Str.ofString ""))) (mCons (mTup (mCons (mVar 1) mNil)) (mCons (mLst (mCons (mC (.str (Str.ofString "00"))) mNil)) (mCons (mLst (mCons (mC (.str (Str.ofString ""))) mNil)) (mCons (mLst (mCons (mC (.str (Str.ofString ""))) mNil)) mNil))))))))) (mRet (mVar 0))))))))))
theorem ss__law_few (K : PySem.W.Frag) : SnS (t__law_few K) m__law_few := (ss_seq (ss_par (sn_cons (sn_un r1_neg sn_int) (sn_cons (sn_lst (sn_cons sn_str (sn_cons sn_str (sn_cons sn_str (sn_cons sn_str sn_nil))))) sn_nil))) (ss_seq (ss_own (sn_lstN (sn_cons (sn_tup (sn_cons sn_int (sn_cons sn_str (sn_cons sn_str (sn_cons (sn_tup (sn_cons sn_var (sn_cons sn_var (sn_cons sn_var (sn_cons sn_var sn_nil))))) (sn_cons (sn_lst (sn_cons sn_str (sn_cons sn_str sn_nil))) (sn_cons sn_var (sn_cons (sn_lst (sn_cons sn_str sn_nil)) sn_nil)))))))) sn_nil))) (ss_seq (ss_app sn_var (sn_tup (sn_cons sn_int (sn_cons sn_str (sn_cons sn_str (sn_cons (sn_tup (sn_cons sn_int (sn_cons sn_int (sn_cons sn_var (sn_cons sn_var sn_nil))))) (sn_cons (sn_lst (sn_cons sn_str (sn_cons sn_str sn_nil))) (sn_cons (sn_lst (sn_cons sn_str (sn_cons sn_str sn_nil))) (sn_cons (sn_lst (sn_cons sn_str sn_nil)) sn_nil))))))))) (ss_seq (ss_app sn_var (sn_tup (sn_cons sn_int (sn_cons sn_str (sn_cons sn_str (sn_cons (sn_tup (sn_cons sn_int (sn_cons sn_var (sn_cons sn_var (sn_cons sn_var sn_nil))))) (sn_cons (sn_lst (sn_cons sn_str sn_nil)) (sn_cons (sn_lst (sn_cons sn_str sn_nil)) (sn_cons (sn_lst (sn_cons sn_str sn_nil)) sn_nil))))))))) (ss_seq (ss_app sn_var (sn_tup (sn_cons sn_int (sn_cons sn_str (sn_cons sn_str (sn_cons (sn_tup (sn_cons sn_int (sn_cons sn_int (sn_cons sn_int (sn_cons sn_int sn_nil))))) (sn_cons (sn_lst (sn_cons sn_str sn_nil)) (sn_cons (sn_lst (sn_cons sn_str sn_nil)) (sn_cons (sn_lst (sn_cons sn_str sn_nil)) sn_nil))))))))) (ss_seq (ss_app sn_var (sn_tup (sn_cons sn_int (sn_cons sn_str (sn_cons sn_str (sn_cons (sn_tup (sn_cons sn_var (sn_cons sn_var (sn_cons sn_var (sn_cons sn_var sn_nil))))) (sn_cons (sn_lst (sn_cons sn_str (sn_cons sn_str sn_nil))) (sn_cons sn_var (sn_cons (sn_lst (sn_cons sn_str sn_nil)) sn_nil))))))))) (ss_seq (ss_app sn_var (sn_tup (sn_cons sn_int (sn_cons sn_str (sn_cons sn_str (sn_cons (sn_tup sn_nil) (sn_cons (sn_lst (sn_cons sn_str sn_nil)) (sn_cons (sn_lst (sn_cons sn_str sn_nil)) (sn_cons (sn_lst (sn_cons sn_str sn_nil)) sn_nil))))))))) (ss_seq (ss_app sn_var (sn_tup (sn_cons sn_int (sn_cons sn_str (sn_cons sn_str (sn_cons (sn_tup (sn_cons sn_var sn_nil)) (sn_cons (sn_lst (sn_cons sn_str sn_nil)) (sn_cons (sn_lst (sn_cons sn_str sn_nil)) (sn_cons (sn_lst (sn_cons sn_str sn_nil)) sn_nil))))))))) (ss_ret sn_var)))))))))
abbrev s__law_many : Stmt := top 68
abbrev N__law_many : List Str := ["_law_n", "_law_some", "_law_rows"]
theorem sc__law_many : FnScope N__law_many [] (defScope s__law_many) := ⟨rfl, rfl, rfl, by decide +kernel, rfl, by decide +kernel, by decide +kernel⟩
def t__law_many (K : PySem.W.Frag) : TS := (tSeq (tAsg (tUn rNeg (tC (.int 1))) (gName 0)) (tSeq (tAsg (tLst (tCons (tC (.str (Str.ofString "0c 1a"))) (tCons (tC (.str (Str.ofString "0c 1b"))) (tCons (tC (.str (Str.ofString "0d 1a"))) (tCons (tC (.str (Str.ofString "0d 1b"))) tNil))))) (gName 1)) (tSeq (tAsg (tLst (tCons (tTupF (tCons (tC (.int 4)) (tCons (tC (.str (Str.ofString "ab ba cd dc"))) (tCons (tC (.str (Str.ofString "ab cd"))) (tCons (tTupF (tCons (tVar 0) (tCons (tVar 0) (tCons (tVar 0) (tCons (tVar 0) tNil))))) (tCons (tLst (tCons (tC (.str (Str.ofString "1010"))) (tCons (tC (.str (Str.ofString "1001"))) (tCons (tC (.str (Str.ofString "0110"))) (tCons (tC (.str (Str.ofString "0101"))) tNil))))) (tCons (tVar 1) (tCons (tLst (tCons (tC (.str (Str.ofString "ab cd"))) tNil)) tNil)))))))) tNil)) (gName 2)) (tSeq (tAsg (tLst (tCons (tC (.str (Str.ofString "0c 1b"))) (tCons (tC (.str (Str.ofString "0d 1b"))) tNil))) (gName 1)) (tSeq (tDrop (tBM K "list" rAppend (tVar 2) (tCons (tTupF (tCons (tC (.int 4)) (tCons (tC (.str (Str.ofString "ab ba cd dc"))) (tCons (tC (.str (Str.ofString "ab cd"))) (tCons (tTupF (tCons (tC (.int 0)) (tCons (tVar 0) (tCons (tVar 0) (tCons (tVar 0) tNil))))) (tCons (tLst (tCons (tC (.str (Str.ofString "0110"))) (tCons (tC (.str (Str.ofString "0101"))) tNil))) (tCons (tVar 1) (tCons (tLst (tCons (tC (.str (Str.ofString "ab cd"))) (tCons (tC (.str (Str.ofString "b cd"))) tNil))) tNil)))))))) tNil))) (tSeq (tAsg (tLst (tCons (tC (.str (Str.ofString "0a 0b 1c"))) (tCons (tC (.str (Str.ofString "0a 0c 1b"))) (tCons (tC (.str (Str.ofString "0b 0c 1a"))) (tCons (tC (.str (Str.ofString "0a 1b 1c"))) (tCons (tC (.str (Str.ofString "0b 1a 1c"))) (tCons (tC (.str (Str.ofString "0c 1a 1b"))) tNil))))))) (gName 1)) (tSeq (tDrop (tBM K "list" rAppend (tVar 2) (tCons (tTupF (tCons (tC (.int 4)) (tCons (tC (.str (Str.ofString "ab bc ca"))) (tCons (tC (.str (Str.ofString "d d"))) (tCons (tTupF (tCons (tVar 0) (tCons (tVar 0) (tCons (tVar 0) tNil)))) (tCons (tLst (tCons (tC (.str (Str.ofString "1110"))) tNil)) (tCons (tVar 1) (tCons (tLst (tCons (tC (.str (Str.ofString "a b c"))) tNil)) tNil)))))))) tNil))) (tSeq (tAsg (tLst (tCons (tC (.str (Str.ofString "0b 0d"))) (tCons (tC (.str (Str.ofString "0b 1d"))) (tCons (tC (.str (Str.ofString "0c 0d"))) (tCons (tC (.str (Str.ofString "0c 1d"))) (tCons (tC (.str (Str.ofString "0d 1b"))) (tCons (tC (.str (Str.ofString "0d 1c"))) (tCons (tC (.str (Str.ofString "1b 1d"))) (tCons (tC (.str (Str.ofString "1c 1d"))) tNil))))))))) (gName 1)) (tSeq (tDrop (tBM K "list" rAppend (tVar 2) (tCons (tTupF (tCons (tC (.int 4)) (tCons (tC (.str (Str.ofString "ab bc bc cb cd"))) (tCons (tC (.str (Str.ofString "a a"))) (tCons (tTupF (tCons (tVar 0) (tCons (tVar 0) (tCons (tVar 0) (tCons (tVar 0) (tCons (tVar 0) tNil)))))) (tCons (tLst (tCons (tC (.str (Str.ofString "0101"))) (tCons (tC (.str (Str.ofString "0011"))) tNil))) (tCons (tVar 1) (tCons (tLst (tCons (tC (.str (Str.ofString "bc d"))) tNil)) tNil)))))))) tNil))) (tSeq (tAsg (tLst (tCons (tC (.str (Str.ofString "0b 0c 1c 2d"))) (tCons (tC (.str (Str.ofString "0b 0c 2c 2d"))) (tCons (tC (.str (Str.ofString "0b 1c 2c 2d"))) (tCons (tC (.str (Str.ofString "0c 1b 1c 2d"))) (tCons (tC (.str (Str.ofString "0c 1b 2c 2d"))) (tCons (tC (.str (Str.ofString "1b 1c 2c 2d"))) tNil))))))) (gName 1)) (tSeq (tAsg (tOp (rAddU K) (tVar 1) (tLst (tCons (tC (.str (Str.ofString "0c 1c 2b 2d"))) (tCons (tC (.str (Str.ofString "0c 2b 2c 2d"))) (tCons (tC (.str (Str.ofString "1c 2b 2c 2d"))) tNil))))) (gName 1)) (tSeq (tDrop (tBM K "list" rAppend (tVar 2) (tCons (tTupF (tCons (tC (.int 4)) (tCons (tC (.str (Str.ofString "da ab bc ca db"))) (tCons (tC (.str (Str.ofString "d d a"))) (tCons (tTupF (tCons (tVar 0) (tCons (tVar 0) (tCons (tVar 0) (tCons (tVar 0) (tCons (tVar 0) tNil)))))) (tCons (tLst (tCons (tC (.str (Str.ofString "0121"))) tNil)) (tCons (tVar 1) (tCons (tLst (tCons (tC (.str (Str.ofString "b c d"))) tNil)) tNil)))))))) tNil))) (tSeq (tAsg (tLst (tCons (tC (.str (Str.ofString "0c 0d 1c 2a"))) (tCons (tC (.str (Str.ofString "0d 1c 2a 2c"))) (tCons (tC (.str (Str.ofString "0c 1c 1d 2a"))) (tCons (tC (.str (Str.ofString "0c 1d 2a 2c"))) (tCons (tC (.str (Str.ofString "1c 1d 2a 2c"))) tNil)))))) (gName 1)) (tSeq (tDrop (tBM K "list" rAppend (tVar 2) (tCons (tTupF (tCons (tC (.int 4)) (tCons (tC (.str (Str.ofString "ab bc cb db cd"))) (tCons (tC (.str (Str.ofString "a a d"))) (tCons (tTupF (tCons (tC (.int 0)) (tCons (tVar 0) (tCons (tVar 0) (tCons (tVar 0) (tCons (tVar 0) tNil)))))) (tCons (tLst (tCons (tC (.str (Str.ofString "1021"))) tNil)) (tCons (tVar 1) (tCons (tLst (tCons (tC (.str (Str.ofString "a c d"))) tNil)) tNil)))))))) tNil))) (tRet (tVar 2))))))))))))))))
def m__law_many : SM := (mSeq (mAsg (mUn gNeg (mC (.int 1))) (mgName 0)) (mSeq (mAsg (mLst (mCons (mC (.str (Str.ofString "0c 1a"))) (mCons (mC (.str (Str.ofString "0c 1b"))) (mCons (mC (.str (Str.ofString "0d 1a"))) (mCons (mC (.str (Str.ofString "0d 1b"))) mNil))))) (mgName 1)) (mSeq (mOwn (mLstN (mCons (mTup (mCons (mC (.int 4)) (mCons (mC (.str (Str.ofString "ab ba cd dc"))) (mCons (mC (.str (Str.ofString "ab cd"))) (mCons (mTup (mCons (mVar 0) (mCons (mVar 0) (mCons (mVar 0) (mCons (mVar 0) mNil))))) (mCons (mLst (mCons (mC (.str (Str.ofString "1010"))) (mCons (mC (.str (Str.ofString "1001"))) (mCons (mC (.str (Str.ofString "0110"))) (mCons (mC (.str (Str.ofString "0101"))) mNil))))) (mCons (mVar 1) (mCons (mLst (mCons (mC (.str (Str.ofString "ab cd"))) mNil)) mNil)))))))) mNil)) 2) (mSeq (mAsg (mLst (mCons (mC (.str (Str.ofString "0c 1b"))) (mCons (mC (.str (Str.ofString "0d 1b"))) mNil))) (mgName 1)) (mSeq (mApp (mVar 2) (mTup (mCons (mC (.int 4)) (mCons (mC (.str (Str.ofString "ab ba cd dc"))) (mCons (mC (.str (Str.ofString "ab cd"))) (mCons (mTup (mCons (mC (.int 0)) (mCons (mVar 0) (mCons (mVar 0) (mCons (mVar 0) mNil))))) (mCons (mLst (mCons (mC (.str (Str.ofString "0110"))) (mCons (mC (.str (Str.ofString "0101"))) mNil))) (mCons (mVar 1) (mCons (mLst (mCons (mC (.str (Str.ofString "ab cd"))) (mCons (mC (.str (Str.ofString "b cd"))) mNil))) mNil))))))))) (mSeq (mAsg (mLst (mCons (mC (.str (Str.ofString "0a 0b 1c"))) (mCons (mC (.str (Str.ofString "0a 0c 1b"))) (mCons (mC (.str (Str.ofString "0b 0c 1a"))) (mCons (mC (.str (Str.ofString "0a 1b 1c"))) (mCons (mC (.str (Str.ofString "0b 1a 1c"))) (mCons (mC (.str (Str.ofString "0c 1a 1b"))) mNil))))))) (mgName 1)) (mSeq (mApp (mVar 2) (mTup (mCons (mC (.int 4)) (mCons (mC (.str (Str.ofString "ab bc ca"))) (mCons (mC (.str (Str.ofString "d d"))) (mCons (mTup (mCons (mVar 0) (mCons (mVar 0) (mCons (mVar 0) mNil)))) (mCons (mLst (mCons (mC (.str (Str.ofString "1110"))) mNil)) (mCons (mVar 1) (mCons (mLst (mCons (mC (.str (Str.ofString "a b c"))) mNil)) mNil))))))))) (mSeq (mAsg (mLst (mCons (mC (.str (Str.ofString "0b 0d"))) (mCons (mC (.str (Str.ofString "0b 1d"))) (mCons (mC (.str (Str.ofString "0c 0d"))) (mCons (mC (.str (Str.ofString "0c 1d"))) (mCons (mC (.str (Str.ofString "0d 1b"))) (mCons (mC (.str (Str.ofString "0d 1c"))) (mCons (mC (.str (Str.ofString "1b 1d"))) (mCons (mC (.str (Str.ofString "1c 1d"))) mNil))))))))) (mgName 1)) (mSeq (mApp (mVar 2) (mTup (mCons (mC (.int 4)) (mCons (mC (.str (Str.ofString "ab bc bc cb cd"))) (mCons (mC (.str (Str.ofString "a a"))) (mCons (mTup (mCons (mVar 0) (mCons (mVar 0) (mCons (mVar 0) (mCons (mVar 0) (mCons (mVar 0) mNil)))))) (mCons (mLst (mCons (mC (.str (Str.ofString "0101"))) (mCons (mC (.str (Str.ofString "0011"))) mNil))) (mCons (mVar 1) (mCons (mLst (mCons (mC (.str (Str.ofString "bc d"))) mNil)) mNil))))))))) (mSeq (mAsg (mLst (mCons (mC (.str (Str.ofString "0b 0c 1c 2d"))) (mCons (mC (.str (Str.ofString "0b 0c 2c 2d"))) (mCons (mC (.str (Str.ofString "0b 1c 2c 2d"))) (mCons (mC (.str (Str.ofString "0c 1b 1c 2d"))) (mCons (mC (.str (Str.ofString "0c 1b 2c 2d"))) (mCons (mC (.str (Str.ofString "1b 1c 2c 2d"))) mNil))))))) (mgName 1)) (mSeq (mAsg (mOp gAddU (mVar 1) (mLst (mCons (mC (.str (Str.ofString "0c 1c 2b 2d"))) (mCons (mC (.str (Str.ofString "0c 2b 2c 2d"))) (mCons (mC (.str (Str.ofString "1c 2b 2c 2d"))) mNil))))) (mgName 1)) (mSeq (mApp (mVar 2) (mTup (mCons (mC (.int 4)) (mCons (mC (.str (Str.ofString "da ab bc ca db"))) (mCons (mC (.str (Str.ofString "d d a"))) (mCons (mTup (mCons (mVar 0) (mCons (mVar 0) (mCons (mVar 0) (mCons (mVar 0) (mCons (mVar 0) mNil)))))) (mCons (mLst (mCons (mC (.str (Str.ofString "0121"))) mNil)) (mCons (mVar 1) (mCons (mLst (mCons (mC (.str (Str.ofString "b c d"))) mNil)) mNil))))))))) (mSeq (mAsg (mLst (mCons (mC (.str (Str.ofString "0c 0d 1c 2a"))) (mCons (mC (.str (Str.ofString "0d 1c 2a 2c"))) (mCons (mC (.str (Str.ofString "0c 1c 1d 2a"))) (mCons (mC (.str (Str.ofString "0c 1d 2a 2c"))) (mCons (mC (.str (Str.ofString "1c 1d 2a 2c"))) mNil)))))) (mgName 1)) (mSeq (mApp (mVar 2) (mTup (mCons (mC (.int 4)) (mCons (mC (.str (Str.ofString "ab bc cb db cd"))) (mCons (mC (.str (Str.ofString "a a d"))) (mCons (mTup (mCons (mC (.int 0)) (mCons (mVar 0) (mCons (mVar 0) (mCons (mVar 0) (mCons (mVar 0) mNil)))))) (mCons (mLst (mCons (mC (.str (Str.ofString "1021"))) mNil)) (mCons (mVar 1) (mCons (mLst (mCons (mC (.str (Str.ofString "a c d"))) mNil)) mNil))))))))) (mRet (mVar 2))))))))))))))))
theorem ss__law_many (K : PySem.W.Frag) : SnS (t__law_many K) m__law_many := (ss_seq (ss_asg (sn_un r1_neg sn_int) sg_name) (ss_seq (ss_asg (sn_lst (sn_cons sn_str (sn_cons sn_str (sn_cons sn_str (sn_cons sn_str sn_nil))))) sg_name) (ss_seq (ss_own (sn_lstN (sn_cons (sn_tup (sn_cons sn_int (sn_cons sn_str (sn_cons sn_str (sn_cons (sn_tup (sn_cons sn_var (sn_cons sn_var (sn_cons sn_var (sn_cons sn_var sn_nil))))) (sn_cons (sn_lst (sn_cons sn_str (sn_cons sn_str (sn_cons sn_str (sn_cons sn_str sn_nil))))) (sn_cons sn_var (sn_cons (sn_lst (sn_cons sn_str sn_nil)) sn_nil)))))))) sn_nil))) (ss_seq (ss_asg (sn_lst (sn_cons sn_str (sn_cons sn_str sn_nil))) sg_name) (ss_seq (ss_app sn_var (sn_tup (sn_cons sn_int (sn_cons sn_str (sn_cons sn_str (sn_cons (sn_tup (sn_cons sn_int (sn_cons sn_var (sn_cons sn_var (sn_cons sn_var sn_nil))))) (sn_cons (sn_lst (sn_cons sn_str (sn_cons sn_str sn_nil))) (sn_cons sn_var (sn_cons (sn_lst (sn_cons sn_str (sn_cons sn_str sn_nil))) sn_nil))))))))) (ss_seq (ss_asg (sn_lst (sn_cons sn_str (sn_cons sn_str (sn_cons sn_str (sn_cons sn_str (sn_cons sn_str (sn_cons sn_str sn_nil))))))) sg_name) (ss_seq (ss_app sn_var (sn_tup (sn_cons sn_int (sn_cons sn_str (sn_cons sn_str (sn_cons (sn_tup (sn_cons sn_var (sn_cons sn_var (sn_cons sn_var sn_nil)))) (sn_cons (sn_lst (sn_cons sn_str sn_nil)) (sn_cons sn_var (sn_cons (sn_lst (sn_cons sn_str sn_nil)) sn_nil))))))))) (ss_seq (ss_asg (sn_lst (sn_cons sn_str (sn_cons sn_str (sn_cons sn_str (sn_cons sn_str (sn_cons sn_str (sn_cons sn_str (sn_cons sn_str (sn_cons sn_str sn_nil))))))))) sg_name) (ss_seq (ss_app sn_var (sn_tup (sn_cons sn_int (sn_cons sn_str (sn_cons sn_str (sn_cons (sn_tup (sn_cons sn_var (sn_cons sn_var (sn_cons sn_var (sn_cons sn_var (sn_cons sn_var sn_nil)))))) (sn_cons (sn_lst (sn_cons sn_str (sn_cons sn_str sn_nil))) (sn_cons sn_var (sn_cons (sn_lst (sn_cons sn_str sn_nil)) sn_nil))))))))) (ss_seq (ss_asg (sn_lst (sn_cons sn_str (sn_cons sn_str (sn_cons sn_str (sn_cons sn_str (sn_cons sn_str (sn_cons sn_str sn_nil))))))) sg_name) (ss_seq (ss_asg (sn_op r2_addU sn_var (sn_lst (sn_cons sn_str (sn_cons sn_str (sn_cons sn_str sn_nil))))) sg_name) (ss_seq (ss_app sn_var (sn_tup (sn_cons sn_int (sn_cons sn_str (sn_cons sn_str (sn_cons (sn_tup (sn_cons sn_var (sn_cons sn_var (sn_cons sn_var (sn_cons sn_var (sn_cons sn_var sn_nil)))))) (sn_cons (sn_lst (sn_cons sn_str sn_nil)) (sn_cons sn_var (sn_cons (sn_lst (sn_cons sn_str sn_nil)) sn_nil))))))))) (ss_seq (ss_asg (sn_lst (sn_cons sn_str (sn_cons sn_str (sn_cons sn_str (sn_cons sn_str (sn_cons sn_str sn_nil)))))) sg_name) (ss_seq (ss_app sn_var (sn_tup (sn_cons sn_int (sn_cons sn_str (sn_cons sn_str (sn_cons (sn_tup (sn_cons sn_int (sn_cons sn_var (sn_cons sn_var (sn_cons sn_var (sn_cons sn_var sn_nil)))))) (sn_cons (sn_lst (sn_cons sn_str sn_nil)) (sn_cons sn_var (sn_cons (sn_lst (sn_cons sn_str sn_nil)) sn_nil))))))))) (ss_ret sn_var)))))))))))))))
abbrev s__law_dues : Stmt := top 69
abbrev N__law_dues : List Str := ["_law_names_here", "_law_digits", "_law_copies", "_law_parts", "_law_late", "_law_some", "_law_word", "_law_sets", "_law_letter", "_law_part", "_law_pair"]
theorem sc__law_dues : FnScope N__law_dues ["_law_names_here", "_law_digits", "_law_copies", "_law_parts"] (defScope s__law_dues) := ⟨rfl, rfl, rfl, by decide +kernel, rfl, by decide +kernel, by decide +kernel⟩
def t__law_dues (K : PySem.W.Frag) : TS := (tSeq (tAsg (tLc (iAny K (tVar 1)) (gName 6) tYes (tCB (rRepr K) (tCons (tCB (rTupA K) (tCons (tLc (iAny K (tVar 6)) (gName 8) tYes (tCB rIntU (tCons (tVar 8) tNil)) [8]) tNil)) tNil)) [6]) (gName 4)) (tSeq (tAsg (tLst tNil) (gName 5)) (tSeq (tFor (iAny K (tVar 2)) (gName 6) (tDrop (tBM K "list" rAppend (tVar 5) (tCons (tCB (rRepr K) (tCons (tCB (rTupA K) (tCons (tLc (iAny K (tM0 rWords (tVar 6))) (gName 10) tYes (tTupF (tCons (tCB rIntU (tCons (tOp (rIxA K) (tVar 10) (tC (.int 0))) tNil)) (tCons (tOp (rIxA K) (tCall (spP 2 (runP 3 m__law_set)) [] E0 (tCons (tVar 0) (tCons (tOp (rIxA K) (tVar 10) (tC (.int 1))) tNil))) (tC (.int 0))) tNil))) [10]) tNil)) tNil)) tNil)))) (tSeq (tAsg (tLc (iAny K (tVar 3)) (gName 6) tYes (tCB (rRepr K) (tCons (tCB (rTupA K) (tCons (tLc (iAny K (tM0 rWords (tVar 6))) (gName 9) tYes (tCall (spP 2 (runP 3 m__law_set)) [] E0 (tCons (tVar 0) (tCons (tVar 9) tNil))) [9]) tNil)) tNil)) [6]) (gName 7)) (tRet (tTupF (tCons (tVar 4) (tCons (tVar 5) (tCons (tVar 7) tNil)))))))))
def m__law_dues : SM := (mSeq (mAsg (mDat (mLc (mAnyI (mVar 1)) (mgName 6) mYes (mCB gRepr (mCons (mCB gTuple (mCons (mDat (mLc (mAnyI (mVar 6)) (mgName 8) mYes (mCB gIntU (mCons (mVar 8) mNil)) [8])) mNil)) mNil)) [6])) (mgName 4)) (mSeq (mOwn (mLstN mNil) 5) (mSeq (mFor (mAnyI (mVar 2)) (mgName 6) (mApp (mVar 5) (mCB gRepr (mCons (mCB gTuple (mCons (mDat (mLc (mAnyI (mM0 gWords (mVar 6))) (mgName 10) mYes (mTup (mCons (mCB gIntU (mCons (mOp gIx (mVar 10) (mC (.int 0))) mNil)) (mCons (mOp gIx (mCall 2 (runP 3 m__law_set) (mCons (mVar 0) (mCons (mOp gIx (mVar 10) (mC (.int 1))) mNil))) (mC (.int 0))) mNil))) [10])) mNil)) mNil)))) (mSeq (mAsg (mDat (mLc (mAnyI (mVar 3)) (mgName 6) mYes (mCB gRepr (mCons (mCB gTuple (mCons (mDat (mLc (mAnyI (mM0 gWords (mVar 6))) (mgName 9) mYes (mCall 2 (runP 3 m__law_set) (mCons (mVar 0) (mCons (mVar 9) mNil))) [9])) mNil)) mNil)) [6])) (mgName 7)) (mRet (mTupR (mCons (mVar 4) (mCons (mVar 5) (mCons (mVar 7) mNil)))))))))
theorem ss__law_dues (K : PySem.W.Frag) : SnS (t__law_dues K) m__law_dues := (ss_seq (ss_asg (sn_dat (sn_lc (si_any sn_var) sg_name (gk_name (by decide)) sn_yes (sn_cb rc_repr (sn_cons (sn_cb rc_tuple (sn_cons (sn_dat (sn_lc (si_any sn_var) sg_name (gk_name (by decide)) sn_yes (sn_cb rc_intU (sn_cons sn_var sn_nil)))) sn_nil)) sn_nil)))) sg_name) (ss_seq (ss_own (sn_lstN sn_nil)) (ss_seq (ss_for (si_any sn_var) sg_name (ss_app sn_var (sn_cb rc_repr (sn_cons (sn_cb rc_tuple (sn_cons (sn_dat (sn_lc (si_any (sn_m0 rm_words sn_var)) sg_name (gk_name (by decide)) sn_yes (sn_tup (sn_cons (sn_cb rc_intU (sn_cons (sn_op r2_ix sn_var sn_int) sn_nil)) (sn_cons (sn_op r2_ix (sn_call (sn_cons sn_var (sn_cons (sn_op r2_ix sn_var sn_int) sn_nil))) sn_int) sn_nil))))) sn_nil)) sn_nil)))) (ss_seq (ss_asg (sn_dat (sn_lc (si_any sn_var) sg_name (gk_name (by decide)) sn_yes (sn_cb rc_repr (sn_cons (sn_cb rc_tuple (sn_cons (sn_dat (sn_lc (si_any (sn_m0 rm_words sn_var)) sg_name (gk_name (by decide)) sn_yes (sn_call (sn_cons sn_var (sn_cons sn_var sn_nil))))) sn_nil)) sn_nil)))) sg_name) (ss_ret (sn_tupR (sn_cons sn_var (sn_cons sn_var (sn_cons sn_var sn_nil)))))))))
abbrev s_law : Stmt := top 70
abbrev N_law : List Str := ["_law_script", "_law_feed_here", "_law_names_here", "_law_row_in", "_law_told", "_law_many_here", "_law_lanes", "_law_first", "_law_given", "_law_web", "_law_firsts", "_law_late", "_law_some", "_law_sets"]
theorem sc_law : FnScope N_law ["_law_script"] (defScope s_law) := ⟨rfl, rfl, rfl, by decide +kernel, rfl, by decide +kernel, by decide +kernel⟩
def t_law (K : PySem.W.Frag) : TS := (tSeq (tAsg (tCall (spF 1 (runF 2 m__law_names)) [] E0 (tCons (tVar 1) tNil)) (gName 2)) (tSeq (tFor (iAny K (tOp (rAddU K) (tCall (spP 0 (runP 3 m__law_few)) [] E0 tNil) (tCall (spP 0 (runP 3 m__law_many)) [] E0 tNil))) (gName 3) (tSeq (tAsg (tSl (rSlU K) (tVar 3) tNoPart (tPart (tC (.int 4)))) (gEi K 4 (gCons (gName 5) (gCons (gName 6) (gCons (gName 7) (gCons (gName 8) gNil)))))) (tSeq (tAsg (tCall (spP 4 (runP 7 m__law_scene)) [] E0 (tCons (tVar 2) (tCons (tVar 5) (tCons (tVar 6) (tCons (tVar 7) tNil))))) (gEi K 2 (gCons (gName 9) (gCons (gName 10) gNil)))) (tSeq (tAsg (tCall (spP 4 (runP 11 m__law_dues)) [] E0 (tCons (tVar 2) (tCons (tOp (rIxA K) (tVar 3) (tC (.int 4))) (tCons (tOp (rIxA K) (tVar 3) (tC (.int 5))) (tCons (tOp (rIxA K) (tVar 3) (tC (.int 6))) tNil))))) (gEi K 3 (gCons (gName 11) (gCons (gName 12) (gCons (gName 13) gNil))))) (tSeq (tAsg (tLst (tCons (tCall (spP 3 (runP 4 m_fewest_further)) [] E0 (tCons (tVar 9) (tCons (tVar 10) (tCons (tVar 8) tNil)))) (tCons (tCallP (spP 3 (runP 4 m_fewest_further)) [2, 1, 0] E0 (tCons (tVar 8) (tCons (tVar 10) (tCons (tVar 9) tNil)))) tNil))) (gName 4)) (tSeq (tIfS (tOr (tTest (tOp (rInA K fun b => !b) (tCB (rRepr K) (tCons (tOp (rIxA K) (tVar 4) (tC (.int 0))) tNil)) (tVar 11))) (tTest (tOp (rInA K fun b => !b) (tCB (rRepr K) (tCons (tOp (rIxA K) (tVar 4) (tC (.int 1))) tNil)) (tVar 11)))) (tRet (tC (.bl false))) tNext) (tSeq (tAsg (tLst (tCons (tCall (spP 3 (runP 10 m_further_copies)) [] E0 (tCons (tVar 9) (tCons (tVar 10) (tCons (tVar 8) tNil)))) tNil)) (gName 4)) (tSeq (tDrop (tBM K "list" rAppend (tVar 4) (tCons (tCallP (spP 3 (runP 10 m_further_copies)) [2, 1, 0] E0 (tCons (tVar 8) (tCons (tVar 10) (tCons (tVar 9) tNil)))) tNil))) (tSeq (tIfS (tOr (tTest (tOp (rInA K fun b => !b) (tCB (rRepr K) (tCons (tOp (rIxA K) (tVar 4) (tC (.int 0))) tNil)) (tVar 12))) (tTest (tOp (rInA K fun b => !b) (tCB (rRepr K) (tCons (tOp (rIxA K) (tVar 4) (tC (.int 1))) tNil)) (tVar 12)))) (tRet (tC (.bl false))) tNext) (tSeq (tAsg (tLst (tCons (tCall (spP 3 (runP 7 m_apart_sets)) [] E0 (tCons (tVar 9) (tCons (tVar 10) (tCons (tVar 8) tNil)))) tNil)) (gName 4)) (tSeq (tDrop (tBM K "list" rAppend (tVar 4) (tCons (tCallP (spP 3 (runP 7 m_apart_sets)) [2, 1, 0] E0 (tCons (tVar 8) (tCons (tVar 10) (tCons (tVar 9) tNil)))) tNil))) (tIfS (tOr (tTest (tOp (rInA K fun b => !b) (tCB (rRepr K) (tCons (tOp (rIxA K) (tVar 4) (tC (.int 0))) tNil)) (tVar 13))) (tTest (tOp (rInA K fun b => !b) (tCB (rRepr K) (tCons (tOp (rIxA K) (tVar 4) (tC (.int 1))) tNil)) (tVar 13)))) (tRet (tC (.bl false))) tNext)))))))))))) (tRet (tC (.bl true)))))
def m_law_2 : SM := (mRet (mC (.bool true)))
def m_law_1 : SM := mSeq (mFor (mAnyI (mOp gAddU (mCall 0 (runP 3 m__law_few) mNil) (mCall 0 (runP 3 m__law_many) mNil))) (mgName 3) (mSeq (mAsg (mSl gSl (mVar 3) mNoPart (mPart (mC (.int 4)))) (mgSeq 4 (mgCons (mgName 5) (mgCons (mgName 6) (mgCons (mgName 7) (mgCons (mgName 8) mgNil)))))) (mSeq (mAsg (mCall 4 (runP 7 m__law_scene) (mCons (mVar 2) (mCons (mVar 5) (mCons (mVar 6) (mCons (mVar 7) mNil))))) (mgSeq 2 (mgCons (mgName 9) (mgCons (mgName 10) mgNil)))) (mSeq (mAsg (mCall 4 (runP 11 m__law_dues) (mCons (mVar 2) (mCons (mOp gIx (mVar 3) (mC (.int 4))) (mCons (mOp gIx (mVar 3) (mC (.int 5))) (mCons (mOp gIx (mVar 3) (mC (.int 6))) mNil))))) (mgSeq 3 (mgCons (mgName 11) (mgCons (mgName 12) (mgCons (mgName 13) mgNil))))) (mSeq (mOwn (mLstN (mCons (mCall 3 (runP 4 m_fewest_further) (mCons (mVar 9) (mCons (mVar 10) (mCons (mVar 8) mNil)))) (mCons (mCallK 3 (runP 4 m_fewest_further) [2, 1, 0] (mCons (mVar 8) (mCons (mVar 10) (mCons (mVar 9) mNil)))) mNil))) 4) (mSeq (mIfS (mOr (mTest (mOp gNotIn (mCB gRepr (mCons (mOp gIx (mVar 4) (mC (.int 0))) mNil)) (mVar 11))) (mTest (mOp gNotIn (mCB gRepr (mCons (mOp gIx (mVar 4) (mC (.int 1))) mNil)) (mVar 11)))) (mRet (mC (.bool false))) mNext) (mSeq (mOwn (mLstN (mCons (mCall 3 (runP 10 m_further_copies) (mCons (mVar 9) (mCons (mVar 10) (mCons (mVar 8) mNil)))) mNil)) 4) (mSeq (mApp (mVar 4) (mCallK 3 (runP 10 m_further_copies) [2, 1, 0] (mCons (mVar 8) (mCons (mVar 10) (mCons (mVar 9) mNil))))) (mSeq (mIfS (mOr (mTest (mOp gNotIn (mCB gRepr (mCons (mOp gIx (mVar 4) (mC (.int 0))) mNil)) (mVar 12))) (mTest (mOp gNotIn (mCB gRepr (mCons (mOp gIx (mVar 4) (mC (.int 1))) mNil)) (mVar 12)))) (mRet (mC (.bool false))) mNext) (mSeq (mOwn (mLstN (mCons (mCall 3 (runP 7 m_apart_sets) (mCons (mVar 9) (mCons (mVar 10) (mCons (mVar 8) mNil)))) mNil)) 4) (mSeq (mApp (mVar 4) (mCallK 3 (runP 7 m_apart_sets) [2, 1, 0] (mCons (mVar 8) (mCons (mVar 10) (mCons (mVar 9) mNil))))) (mIfS (mOr (mTest (mOp gNotIn (mCB gRepr (mCons (mOp gIx (mVar 4) (mC (.int 0))) mNil)) (mVar 13))) (mTest (mOp gNotIn (mCB gRepr (mCons (mOp gIx (mVar 4) (mC (.int 1))) mNil)) (mVar 13)))) (mRet (mC (.bool false))) mNext)))))))))))) m_law_2
def m_law : SM := mSeq (mAsg (mCallF 1 (runF 2 m__law_names) (mCons (mVar 1) mNil)) (mgName 2)) m_law_1
theorem ss_law (K : PySem.W.Frag) : SnS (t_law K) m_law := (ss_seq (ss_asg (sn_callF (sn_cons sn_var sn_nil)) sg_name) (ss_seq (ss_for (si_any (sn_op r2_addU (sn_call sn_nil) (sn_call sn_nil))) sg_name (ss_seq (ss_asg (sn_sl rs_U sn_var sn_nopart (sn_part sn_int)) (sg_seq (sgs_cons sg_name (sgs_cons sg_name (sgs_cons sg_name (sgs_cons sg_name sgs_nil)))))) (ss_seq (ss_asg (sn_call (sn_cons sn_var (sn_cons sn_var (sn_cons sn_var (sn_cons sn_var sn_nil))))) (sg_seq (sgs_cons sg_name (sgs_cons sg_name sgs_nil)))) (ss_seq (ss_asg (sn_call (sn_cons sn_var (sn_cons (sn_op r2_ix sn_var sn_int) (sn_cons (sn_op r2_ix sn_var sn_int) (sn_cons (sn_op r2_ix sn_var sn_int) sn_nil))))) (sg_seq (sgs_cons sg_name (sgs_cons sg_name (sgs_cons sg_name sgs_nil))))) (ss_seq (ss_own (sn_lstN (sn_cons (sn_call (sn_cons sn_var (sn_cons sn_var (sn_cons sn_var sn_nil)))) (sn_cons (sn_callK (sn_cons sn_var (sn_cons sn_var (sn_cons sn_var sn_nil)))) sn_nil)))) (ss_seq (ss_if (sn_or (sn_test (sn_op (r2_in (f := fun b => !b)) (sn_cb rc_repr (sn_cons (sn_op r2_ix sn_var sn_int) sn_nil)) sn_var)) (sn_test (sn_op (r2_in (f := fun b => !b)) (sn_cb rc_repr (sn_cons (sn_op r2_ix sn_var sn_int) sn_nil)) sn_var))) (ss_ret sn_bl) ss_next) (ss_seq (ss_own (sn_lstN (sn_cons (sn_call (sn_cons sn_var (sn_cons sn_var (sn_cons sn_var sn_nil)))) sn_nil))) (ss_seq (ss_app sn_var (sn_callK (sn_cons sn_var (sn_cons sn_var (sn_cons sn_var sn_nil))))) (ss_seq (ss_if (sn_or (sn_test (sn_op (r2_in (f := fun b => !b)) (sn_cb rc_repr (sn_cons (sn_op r2_ix sn_var sn_int) sn_nil)) sn_var)) (sn_test (sn_op (r2_in (f := fun b => !b)) (sn_cb rc_repr (sn_cons (sn_op r2_ix sn_var sn_int) sn_nil)) sn_var))) (ss_ret sn_bl) ss_next) (ss_seq (ss_own (sn_lstN (sn_cons (sn_call (sn_cons sn_var (sn_cons sn_var (sn_cons sn_var sn_nil)))) sn_nil))) (ss_seq (ss_app sn_var (sn_callK (sn_cons sn_var (sn_cons sn_var (sn_cons sn_var sn_nil))))) (ss_if (sn_or (sn_test (sn_op (r2_in (f := fun b => !b)) (sn_cb rc_repr (sn_cons (sn_op r2_ix sn_var sn_int) sn_nil)) sn_var)) (sn_test (sn_op (r2_in (f := fun b => !b)) (sn_cb rc_repr (sn_cons (sn_op r2_ix sn_var sn_int) sn_nil)) sn_var))) (ss_ret sn_bl) ss_next)))))))))))) (ss_ret sn_bl)))
end
end H52

namespace H52
noncomputable section
open PySem PySem.Spec PyProof.Rows L2 RZ AP
variable [Tbls]
theorem ok__steps [Gd] {P : Program} {w : World} {K : PySem.W.Frag} {mg : Str → Option Value} {base : Heap} {f : Addr} {fd : FuncData} (b_enumerate : mg "enumerate" = none) (F : FnP K "_steps" s__steps f fd) : FnG P w K mg base CX0 1 f fd ["arcs", "flow"] (spP 2 (runP 7 m__steps)) :=
  have nd := sc__steps.nd
  def_pure F sc__steps (fun cdv hv A outer s H E hg hr => PSs.nox ((pss_cons (ps_set (i := 2) nd rfl (Or.inl rfl) pe_dnewK) (pss_cons (ps_for PassesOwn.never rfl (pi_enA (by rfl) b_enumerate (pa_cons (pv 0) pa_nil)) (pg_tup rfl (pgs_cons (pg_name (i := 3) nd rfl (Or.inl rfl)) (pgs_cons (pg_tup rfl (pgs_cons (pg_name (i := 4) nd rfl (Or.inl rfl)) (pgs_cons (pg_name (i := 5) nd rfl (Or.inl rfl)) (pgs_cons (pg_name (i := 6) nd rfl (Or.inl rfl)) pgs_nil)))) pgs_nil))) (pss_cons (ps_if (pt_cmpR (op_ltW (hu64 hr)) (pe_ix (ix_A (hu64 hr)) (pv 1) (pv 3) (fun _ _ => rfl)) (pv 6) (nomark _)) (pss_one (ps_expr (pe_bm PySem.F.plainAttrs_list PySem.F.slot_list_append PySem.F.type_list_append mt_append (pe_dsetd (pv 2) (pv 4) (pe_lst pa_nil) ⟨rfl, rfl, rfl, rfl⟩) (pa_cons (pe_tupF (pa_cons (pv 5) (pa_cons (pv 3) (pa_cons (pe_op op_sub (pv 6) (pe_ix (ix_A (hu64 hr)) (pv 1) (pv 3) (fun _ _ => rfl))) pa_nil)))) pa_nil)))) pss_nil) (pss_one (ps_if (pt_cmpR (op_gtW (hu64 hr)) (pe_ix (ix_A (hu64 hr)) (pv 1) (pv 3) (fun _ _ => rfl)) pe_int (nomark _)) (pss_one (ps_expr (pe_bm PySem.F.plainAttrs_list PySem.F.slot_list_append PySem.F.type_list_append mt_append (pe_dsetd (pv 2) (pv 5) (pe_lst pa_nil) ⟨rfl, rfl, rfl, rfl⟩) (pa_cons (pe_tupF (pa_cons (pv 4) (pa_cons (pv 3) (pa_cons (pe_un un_neg (pe_ix (ix_A (hu64 hr)) (pv 1) (pv 3) (fun _ _ => rfl))) pa_nil)))) pa_nil)))) pss_nil)))) (pss_one (ps_ret (pv 2))))))) (ss__steps K)
theorem ok_reached [Gd] {P : Program} {w : World} {K : PySem.W.Frag} {mg : Str → Option Value} {base : Heap} {f : Addr} {fd : FuncData} {f__steps : Addr} {fd__steps : FuncData} (C__steps : Cal P w K mg base "_steps" 1 ["arcs", "flow"] (spP 2 (runP 7 m__steps)) f__steps fd__steps) (F : FnP K "reached" s_reached f fd) : FnG P w K mg base CX0 2 f fd ["arcs", "flow", "start"] (spP 3 (runP 10 m_reached)) :=
  have nd := sc_reached.nd
  def_pure F sc_reached (fun cdv hv A outer s H E hg hr => PSs.nox ((pss_cons (ps_set (i := 3) nd rfl (Or.inl rfl) (pe_calC C__steps hg hr (by decide) (by rfl) (pa_cons (pv 0) (pa_cons (pv 1) pa_nil)))) (pss_cons (ps_set (i := 4) nd rfl (Or.inl rfl) (pe_disp1 (pv 2) pe_non)) (pss_cons (ps_set (i := 5) nd rfl (Or.inl rfl) (pe_lst (pa_cons (pv 2) pa_nil))) (pss_cons (ps_while PassesOwn.never (pt_tr (pv 5)) (pss_cons (ps_set (i := 6) nd rfl (Or.inl rfl) (pe_bm PySem.F.plainAttrs_list PySem.F.slot_list_pop PySem.F.type_list_pop mt_popAt (pv 5) (pa_cons pe_int pa_nil))) (pss_one (ps_for PassesOwn.never rfl (pi_any (pe_dget2 (hu1 hr) (pv 3) (pv 6) (pe_lst pa_nil) ⟨rfl, rfl, rfl, rfl⟩)) (pg_tup rfl (pgs_cons (pg_name (i := 7) nd rfl (Or.inl rfl)) (pgs_cons (pg_name (i := 8) nd rfl (Or.inl rfl)) (pgs_cons (pg_name (i := 9) nd rfl (Or.inl rfl)) pgs_nil)))) (pss_one (ps_if (pt_cmpR (op_notInA (hu65 hr)) (pv 7) (pv 4) (by with_unfolding_all rfl)) (pss_cons (ps_dput (hu1 hr) (pv 4) (pv 7) (pe_tupF (pa_cons (pv 6) (pa_cons (pv 8) (pa_cons (pv 9) pa_nil)))) rfl) (pss_one (ps_expr (pe_bm PySem.F.plainAttrs_list PySem.F.slot_list_append PySem.F.type_list_append mt_append (pv 5) (pa_cons (pv 7) pa_nil))))) pss_nil)))))) (pss_one (ps_ret (pv 4))))))))) (ss_reached K)
theorem ok__open_path [Gd] {P : Program} {w : World} {K : PySem.W.Frag} {mg : Str → Option Value} {base : Heap} {f : Addr} {fd : FuncData} {f_reached : Addr} {fd_reached : FuncData} (C_reached : Cal P w K mg base "reached" 2 ["arcs", "flow", "start"] (spP 3 (runP 10 m_reached)) f_reached fd_reached) (F : FnP K "_open_path" s__open_path f fd) : FnG P w K mg base CX0 3 f fd ["arcs", "flow", "start", "end"] (spPF 4 (runP 10 m__open_path) (frM 10 m__open_path)) :=
  have nd := sc__open_path.nd
  def_pureF F sc__open_path (fun cdv hv A outer s H E hg hr => PSs.nox ((pss_cons (ps_set (i := 4) nd rfl (Or.inl rfl) (pe_calC C_reached hg hr (by decide) (by rfl) (pa_cons (pv 0) (pa_cons (pv 1) (pa_cons (pv 2) pa_nil))))) (pss_cons (ps_set (i := 5) nd rfl (Or.inl rfl) (pe_lst pa_nil)) (pss_cons (ps_set (i := 6) nd rfl (Or.inl rfl) (pe_dget1 (hu1 hr) (pv 4) (pv 3) ⟨rfl, rfl, rfl, rfl⟩)) (pss_cons (ps_while PassesOwn.never (pt_cmpR op_notN (pv 6) pe_non (nomark _)) (pss_cons (ps_asg (pv 6) (pg_ei rfl (pgs_cons (pg_name (i := 7) nd rfl (Or.inl rfl)) (pgs_cons (pg_name (i := 8) nd rfl (Or.inl rfl)) (pgs_cons (pg_name (i := 9) nd rfl (Or.inl rfl)) pgs_nil))))) (pss_cons (ps_expr (pe_bm PySem.F.plainAttrs_list PySem.F.slot_list_append PySem.F.type_list_append mt_append (pv 5) (pa_cons (pe_tupF (pa_cons (pv 8) (pa_cons (pv 9) pa_nil))) pa_nil))) (pss_one (ps_set (i := 6) nd rfl (Or.inl rfl) (pe_ix (ix_A (hu64 hr)) (pv 4) (pv 7) (fun _ _ => rfl))))))) (pss_one (ps_ret (pv 5))))))))) (ss__open_path K)
theorem ok_fullest_flow [Gd] {P : Program} {w : World} {K : PySem.W.Frag} {mg : Str → Option Value} {base : Heap} {f : Addr} {fd : FuncData} (b_abs : mg "abs" = none) (b_min : mg "min" = none) {f__open_path : Addr} {fd__open_path : FuncData} (C__open_path : Cal P w K mg base "_open_path" 3 ["arcs", "flow", "start", "end"] (spPF 4 (runP 10 m__open_path) (frM 10 m__open_path)) f__open_path fd__open_path) (F : FnP K "fullest_flow" s_fullest_flow f fd) : FnG P w K mg base CX0 4 f fd ["arcs", "start", "end"] (spP 3 (runP 9 m_fullest_flow)) :=
  have nd := sc_fullest_flow.nd
  def_pure F sc_fullest_flow (fun cdv hv A outer s H E hg hr => PSs.nox ((pss_cons (ps_setLc (i := 3) (own := [("arc", 6)]) (g := (gName 6)) (tt := tYes) rfl nd rfl rfl (sw_true rfl rfl rfl (by decide +kernel)) (pi_any (pv 0)) (blkOk_by (N := N_fullest_flow) (sc := defScope s_fullest_flow) (by decide +kernel)) (fun _ _ _ _ _ => (pg_name (i := 6) nd rfl (by first | exact Or.inl rfl | exact Or.inr rfl))) (fun _ _ _ _ _ => pts_nil) (fun _ _ _ _ _ => pe_int)) (pss_cons (ps_set (i := 4) nd rfl (Or.inl rfl) (pe_calC C__open_path hg hr (by decide) (by rfl) (pa_cons (pv 0) (pa_cons (pv 3) (pa_cons (pv 1) (pa_cons (pv 2) pa_nil)))))) (pss_cons (ps_while PassesOwn.never (pt_tr (pv 4)) (pss_cons (ps_set (i := 5) nd rfl (Or.inl rfl) (pe_callB (cr_minW rfl (hu64 hr)) (by rfl) b_min boot_min (pa_cons (pe_lc (own := [("k", 7), ("left", 8)]) (g := (gTup K 2 (gCons (gName 7) (gCons (gName 8) gNil)))) (tt := tYes) rfl nd  (pi_any (pv 4)) (blkOk_by (N := N_fullest_flow) (sc := defScope s_fullest_flow) (by decide +kernel)) (fun _ _ _ _ _ => (pg_tup rfl (pgs_cons (pg_name (i := 7) nd rfl (by first | exact Or.inl rfl | exact Or.inr rfl)) (pgs_cons (pg_name (i := 8) nd rfl (by first | exact Or.inl rfl | exact Or.inr rfl)) pgs_nil)))) (fun _ _ _ _ _ => pts_nil) (fun _ _ _ _ _ => (pe_callB call_absU (by rfl) b_abs boot_abs (pa_cons (pv 8) pa_nil)))) pa_nil))) (pss_cons (ps_for PassesOwn.never rfl (pi_any (pv 4)) (pg_tup rfl (pgs_cons (pg_name (i := 7) nd rfl (Or.inl rfl)) (pgs_cons (pg_name (i := 8) nd rfl (Or.inl rfl)) pgs_nil))) (pss_one (ps_asg (pe_ifExp (pt_cmpR (op_gtW (hu64 hr)) (pv 8) pe_int (nomark _)) (pe_op op_addU (pe_ix (ix_A (hu64 hr)) (pv 3) (pv 7) (fun _ _ => rfl)) (pv 5)) (pe_op op_sub (pe_ix (ix_A (hu64 hr)) (pv 3) (pv 7) (fun _ _ => rfl)) (pv 5))) (pg_sub (pv 3) (pv 7) set_list)))) (pss_one (ps_set (i := 4) nd rfl (Or.inl rfl) (pe_calC C__open_path hg hr (by decide) (by rfl) (pa_cons (pv 0) (pa_cons (pv 3) (pa_cons (pv 1) (pa_cons (pv 2) pa_nil)))))))))) (pss_one (ps_ret (pv 3)))))))) (ss_fullest_flow K)
theorem ok_arcs_of [Gd] {P : Program} {w : World} {K : PySem.W.Frag} {mg : Str → Option Value} {base : Heap} {f : Addr} {fd : FuncData} (b_enumerate : mg "enumerate" = none) (b_list : mg "list" = none) (c_START : ∃ t, mg "START" = some (.str (Str.ofString "") t)) (F : FnP K "arcs_of" s_arcs_of f fd) : FnG P w K mg base CX0 1 f fd ["links", "stocks"] (spP 2 (runP 7 m_arcs_of)) :=
  have nd := sc_arcs_of.nd
  def_pure F sc_arcs_of (fun cdv hv A outer s H E hg hr => PSs.nox ((pss_cons (ps_set (i := 2) nd rfl (Or.inl rfl) (pe_callTy call_list_of (by rfl) b_list boot_list (pa_cons (pv 0) pa_nil))) (pss_cons (ps_for PassesOwn.never rfl (pi_enA (by rfl) b_enumerate (pa_cons (pv 1) pa_nil)) (pg_tup rfl (pgs_cons (pg_name (i := 3) nd rfl (Or.inr rfl)) (pgs_cons (pg_tup rfl (pgs_cons (pg_name (i := 4) nd rfl (Or.inl rfl)) (pgs_cons (pg_name (i := 5) nd rfl (Or.inr rfl)) pgs_nil))) pgs_nil))) (pss_cons (ps_expr (pe_bm PySem.F.plainAttrs_list PySem.F.slot_list_append PySem.F.type_list_append mt_append (pv 2) (pa_cons (pe_tupF (pa_cons (pe_gC c_START (by rfl)) (pa_cons (pv 3) (pa_cons (pv 5) pa_nil)))) pa_nil))) (pss_one (ps_expr (pe_bm PySem.F.plainAttrs_list PySem.F.slot_list_extend PySem.F.type_list_extend mt_extU (pv 2) (pa_cons (pe_or3 (pe_lc (own := [("house", 6)]) (g := (gName 6)) (tt := tYes) rfl nd  (pi_any (pv 4)) (blkOk_by (N := N_arcs_of) (sc := defScope s_arcs_of) (by decide +kernel)) (fun _ _ _ _ _ => (pg_name (i := 6) nd rfl (by first | exact Or.inl rfl | exact Or.inr rfl))) (fun _ _ _ _ _ => pts_nil) (fun _ _ _ _ _ => (pe_tupF (pa_cons (pv 3) (pa_cons (pv 6) (pa_cons (pv 5) pa_nil)))))) (pe_lock (pe_lc (own := [("house", 6)]) (g := (gName 6)) (tt := tYes) rfl nd  (pi_keys (pv 4)) (blkOk_by (N := N_arcs_of) (sc := defScope s_arcs_of) (by decide +kernel)) (fun _ _ _ _ _ => (pg_name (i := 6) nd rfl (by first | exact Or.inl rfl | exact Or.inr rfl))) (fun _ _ _ _ _ => pts_nil) (fun _ _ _ _ _ => (pe_tupF (pa_cons (pv 3) (pa_cons (pv 6) (pa_cons (pv 5) pa_nil))))))) (pe_lc (own := [("house", 6)]) (g := (gName 6)) (tt := tYes) rfl nd  (pi_keys (pv 4)) (blkOk_by (N := N_arcs_of) (sc := defScope s_arcs_of) (by decide +kernel)) (fun _ _ _ _ _ => (pg_name (i := 6) nd rfl (by first | exact Or.inl rfl | exact Or.inr rfl))) (fun _ _ _ _ _ => pts_nil) (fun _ _ _ _ _ => (pe_tupF (pa_cons (pv 3) (pa_cons (pv 6) (pa_cons (pv 5) pa_nil))))))) pa_nil)))))) (pss_one (ps_ret (pv 2))))))) (ss_arcs_of K)
end
end H52

namespace H52
noncomputable section
open PySem PySem.Spec PyProof.Rows L2 RZ AP
variable [Tbls]
theorem ok_most_brought [Gd] {P : Program} {w : World} {K : PySem.W.Frag} {mg : Str → Option Value} {base : Heap} {f : Addr} {fd : FuncData} (b_sum : mg "sum" = none) (b_zip : mg "zip" = none) (c_START : ∃ t, mg "START" = some (.str (Str.ofString "") t)) {f_fullest_flow : Addr} {fd_fullest_flow : FuncData} (C_fullest_flow : Cal P w K mg base "fullest_flow" 4 ["arcs", "start", "end"] (spP 3 (runP 9 m_fullest_flow)) f_fullest_flow fd_fullest_flow) {f_arcs_of : Addr} {fd_arcs_of : FuncData} (C_arcs_of : Cal P w K mg base "arcs_of" 1 ["links", "stocks"] (spP 2 (runP 7 m_arcs_of)) f_arcs_of fd_arcs_of) (F : FnP K "most_brought" s_most_brought f fd) : FnG P w K mg base CX0 5 f fd ["links", "stocks", "house"] (spP 3 (runP 9 m_most_brought)) :=
  have nd := sc_most_brought.nd
  def_pure F sc_most_brought (fun cdv hv A outer s H E hg hr => PSs.nox ((pss_cons (ps_set (i := 3) nd rfl (Or.inl rfl) (pe_calC C_arcs_of hg hr (by decide) (by rfl) (pa_cons (pv 0) (pa_cons (pv 1) pa_nil)))) (pss_cons (ps_set (i := 4) nd rfl (Or.inl rfl) (pe_calC C_fullest_flow hg hr (by decide) (by rfl) (pa_cons (pv 3) (pa_cons (pe_gC c_START (by rfl)) (pa_cons (pv 2) pa_nil))))) (pss_one (ps_ret (pe_callB (cr_sum rfl) (by rfl) b_sum boot_sum (pa_cons (pe_lc (own := [("many", 5), ("tail", 6), ("head", 7), ("room", 8)]) (g := (gTup K 2 (gCons (gTup K 3 (gCons (gName 6) (gCons (gName 7) (gCons (gName 8) gNil)))) (gCons (gName 5) gNil)))) (tt := (tTest (tOp (rEqU K) (tVar 6) (tC (.str (Str.ofString "")))))) rfl nd  (pi_zipX (by rfl) b_zip (pa_cons (pv 3) (pa_cons (pv 4) pa_nil))) (blkOk_by (N := N_most_brought) (sc := defScope s_most_brought) (by decide +kernel)) (fun _ _ _ _ _ => (pg_tup rfl (pgs_cons (pg_tup rfl (pgs_cons (pg_name (i := 6) nd rfl (by first | exact Or.inl rfl | exact Or.inr rfl)) (pgs_cons (pg_name (i := 7) nd rfl (by first | exact Or.inl rfl | exact Or.inr rfl)) (pgs_cons (pg_name (i := 8) nd rfl (by first | exact Or.inl rfl | exact Or.inr rfl)) pgs_nil)))) (pgs_cons (pg_name (i := 5) nd rfl (by first | exact Or.inl rfl | exact Or.inr rfl)) pgs_nil)))) (fun _ _ _ _ _ => (pts_one (pt_cmpR (op_eqU (hu64 hr)) (pv 6) (pe_gC c_START (by rfl)) (nomark _)))) (fun _ _ _ _ _ => (pv 5))) pa_nil)))))))) (ss_most_brought K)
theorem ok_greatest_set [Gd] {P : Program} {w : World} {K : PySem.W.Frag} {mg : Str → Option Value} {base : Heap} {f : Addr} {fd : FuncData} (b_tuple : mg "tuple" = none) (c_START : ∃ t, mg "START" = some (.str (Str.ofString "") t)) {f_reached : Addr} {fd_reached : FuncData} (C_reached : Cal P w K mg base "reached" 2 ["arcs", "flow", "start"] (spP 3 (runP 10 m_reached)) f_reached fd_reached) {f_fullest_flow : Addr} {fd_fullest_flow : FuncData} (C_fullest_flow : Cal P w K mg base "fullest_flow" 4 ["arcs", "start", "end"] (spP 3 (runP 9 m_fullest_flow)) f_fullest_flow fd_fullest_flow) {f_arcs_of : Addr} {fd_arcs_of : FuncData} (C_arcs_of : Cal P w K mg base "arcs_of" 1 ["links", "stocks"] (spP 2 (runP 7 m_arcs_of)) f_arcs_of fd_arcs_of) (F : FnP K "greatest_set" s_greatest_set f fd) : FnG P w K mg base CX0 5 f fd ["houses", "links", "stocks", "house"] (spP 4 (runP 7 m_greatest_set)) :=
  have nd := sc_greatest_set.nd
  def_pure F sc_greatest_set (fun cdv hv A outer s H E hg hr => PSs.nox ((pss_cons (ps_set (i := 4) nd rfl (Or.inl rfl) (pe_calC C_arcs_of hg hr (by decide) (by rfl) (pa_cons (pv 1) (pa_cons (pv 2) pa_nil)))) (pss_cons (ps_set (i := 5) nd rfl (Or.inr rfl) (pe_calC C_reached hg hr (by decide) (by rfl) (pa_cons (pv 4) (pa_cons (pe_calC C_fullest_flow hg hr (by decide) (by rfl) (pa_cons (pv 4) (pa_cons (pe_gC c_START (by rfl)) (pa_cons (pv 3) pa_nil)))) (pa_cons (pe_gC c_START (by rfl)) pa_nil))))) (pss_one (ps_ret (pe_callTy call_tupleF (by rfl) b_tuple boot_tuple (pa_cons (pe_lc (own := [("name", 6)]) (g := (gName 6)) (tt := (tTest (tOp (rInA K fun b => !b) (tVar 6) (tVar 5)))) rfl nd  (pi_any (pv 0)) (blkOk_by (N := N_greatest_set) (sc := defScope s_greatest_set) (by decide +kernel)) (fun _ _ _ _ _ => (pg_name (i := 6) nd rfl (by first | exact Or.inl rfl | exact Or.inr rfl))) (fun _ _ _ _ _ => (pts_one (pt_cmpR (op_notInA (hu65 hr)) (pv 6) (pv 5) (by with_unfolding_all rfl)))) (fun _ _ _ _ _ => (pv 6))) pa_nil)))))))) (ss_greatest_set K)
theorem ok_free_links [Gd] {P : Program} {w : World} {K : PySem.W.Frag} {mg : Str → Option Value} {base : Heap} {f : Addr} {fd : FuncData} (b_zip : mg "zip" = none) (F : FnP K "free_links" s_free_links f fd) : FnG P w K mg base CX0 1 f fd ["net", "giving"] (spP 2 (runP 5 m_free_links)) :=
  have nd := sc_free_links.nd
  def_pure F sc_free_links (fun cdv hv A outer s H E hg hr => PSs.nox ((pss_one (ps_ret (pe_lc (own := [("piece", 2), ("source", 3), ("target", 4)]) (g := (gTup K 2 (gCons (gTup K 2 (gCons (gName 3) (gCons (gName 4) gNil))) (gCons (gName 2) gNil)))) (tt := tYes) rfl nd  (pi_zipX (by rfl) b_zip (pa_cons (pe_ix (ix_A (hu64 hr)) (pv 0) pe_int (fun _ _ => rfl)) (pa_cons (pv 1) pa_nil))) (blkOk_by (N := N_free_links) (sc := defScope s_free_links) (by decide +kernel)) (fun _ _ _ _ _ => (pg_tup rfl (pgs_cons (pg_tup rfl (pgs_cons (pg_name (i := 3) nd rfl (by first | exact Or.inl rfl | exact Or.inr rfl)) (pgs_cons (pg_name (i := 4) nd rfl (by first | exact Or.inl rfl | exact Or.inr rfl)) pgs_nil))) (pgs_cons (pg_name (i := 2) nd rfl (by first | exact Or.inl rfl | exact Or.inr rfl)) pgs_nil)))) (fun _ _ _ _ _ => pts_nil) (fun _ _ _ _ _ => (pe_tupF (pa_cons (pv 3) (pa_cons (pv 4) (pa_cons (pe_ifExp (pt_cmpR (op_eqU (hu64 hr)) (pv 2) (pe_un un_neg pe_int) (nomark _)) pe_int pe_int) pa_nil)))))))))) (ss_free_links K)
theorem ok_single_stocks [Gd] {P : Program} {w : World} {K : PySem.W.Frag} {mg : Str → Option Value} {base : Heap} {f : Addr} {fd : FuncData} (F : FnP K "single_stocks" s_single_stocks f fd) : FnG P w K mg base CX0 1 f fd ["found"] (spP 1 (runP 2 m_single_stocks)) :=
  have nd := sc_single_stocks.nd
  def_pure F sc_single_stocks (fun cdv hv A outer s H E hg hr => PSs.nox ((pss_one (ps_ret (pe_lc (own := [("owners", 1)]) (g := (gName 1)) (tt := tYes) rfl nd  (pi_any (pv 0)) (blkOk_by (N := N_single_stocks) (sc := defScope s_single_stocks) (by decide +kernel)) (fun _ _ _ _ _ => (pg_name (i := 1) nd rfl (by first | exact Or.inl rfl | exact Or.inr rfl))) (fun _ _ _ _ _ => pts_nil) (fun _ _ _ _ _ => (pe_tupF (pa_cons (pv 1) (pa_cons pe_int pa_nil))))))))) (ss_single_stocks K)
theorem ok_is_integer [Gd] {P : Program} {w : World} {K : PySem.W.Frag} {mg : Str → Option Value} {base : Heap} {f : Addr} {fd : FuncData} (b_bool : mg "bool" = none) (b_int : mg "int" = none) (b_isinstance : mg "isinstance" = none) (F : FnP K "is_integer" s_is_integer f fd) : FnG P w K mg base CX0 1 f fd ["thing"] (spP 1 (runP 1 m_is_integer)) :=
  have nd := sc_is_integer.nd
  def_pure F sc_is_integer (fun cdv hv A outer s H E hg hr => PSs.nox ((pss_one (ps_ret (pe_andT (pe_callB call_isi (by rfl) b_isinstance boot_isinstance (pa_cons (pv 0) (pa_cons (pe_bltn (v := .ty (Ty.nm .int)) (by rfl) b_int boot_int rfl) pa_nil))) (pe_one (pe_notT (pe_callB call_isi (by rfl) b_isinstance boot_isinstance (pa_cons (pv 0) (pa_cons (pe_bltn (v := .ty (Ty.nm .bool)) (by rfl) b_bool boot_bool rfl) pa_nil)))))))))) (ss_is_integer K)
theorem ok_is_number [Gd] {P : Program} {w : World} {K : PySem.W.Frag} {mg : Str → Option Value} {base : Heap} {f : Addr} {fd : FuncData} {f_is_integer : Addr} {fd_is_integer : FuncData} (C_is_integer : Cal P w K mg base "is_integer" 1 ["thing"] (spP 1 (runP 1 m_is_integer)) f_is_integer fd_is_integer) (F : FnP K "is_number" s_is_number f fd) : FnG P w K mg base CX0 2 f fd ["thing"] (spP 1 (runP 1 m_is_number)) :=
  have nd := sc_is_number.nd
  def_pure F sc_is_number (fun cdv hv A outer s H E hg hr => PSs.nox ((pss_one (ps_ret (pe_andT (pe_calC C_is_integer hg hr (by decide) (by rfl) (pa_cons (pv 0) pa_nil)) (pe_one (pe_cmpR (op_geW (hu64 hr)) (pv 0) pe_int (nomark _)))))))) (ss_is_number K)
theorem ok_is_pair [Gd] {P : Program} {w : World} {K : PySem.W.Frag} {mg : Str → Option Value} {base : Heap} {f : Addr} {fd : FuncData} (b_isinstance : mg "isinstance" = none) (b_len : mg "len" = none) (b_tuple : mg "tuple" = none) (F : FnP K "is_pair" s_is_pair f fd) : FnG P w K mg base CX0 1 f fd ["thing"] (spP 1 (runP 1 m_is_pair)) :=
  have nd := sc_is_pair.nd
  def_pure F sc_is_pair (fun cdv hv A outer s H E hg hr => PSs.nox ((pss_one (ps_ret (pe_andT (pe_callB call_isi (by rfl) b_isinstance boot_isinstance (pa_cons (pv 0) (pa_cons (pe_bltn (v := .ty (Ty.nm .tuple)) (by rfl) b_tuple boot_tuple rfl) pa_nil))) (pe_one (pe_cmpR (op_eqU (hu64 hr)) (pe_callB call_lenA (by rfl) b_len boot_len (pa_cons (pv 0) pa_nil)) pe_int (nomark _)))))))) (ss_is_pair K)
theorem ok_is_ascending [Gd] {P : Program} {w : World} {K : PySem.W.Frag} {mg : Str → Option Value} {base : Heap} {f : Addr} {fd : FuncData} (b_all : mg "all" = none) (b_zip : mg "zip" = none) (F : FnP K "is_ascending" s_is_ascending f fd) : FnG P w K mg base CX0 1 f fd ["values"] (spP 1 (runP 3 m_is_ascending)) :=
  have nd := sc_is_ascending.nd
  def_pure F sc_is_ascending (fun cdv hv A outer s H E hg hr => PSs.nox ((pss_one (ps_ret (pe_callB (cr_all rfl) (by rfl) b_all boot_all (pa_cons (pe_lc (own := [("low", 1), ("high", 2)]) (g := (gTup K 2 (gCons (gName 1) (gCons (gName 2) gNil)))) (tt := tYes) rfl nd  (pi_zipX (by rfl) b_zip (pa_cons (pv 0) (pa_cons (pe_slice sl_U (pv 0) (po_some pe_int) po_none) pa_nil))) (blkOk_by (N := N_is_ascending) (sc := defScope s_is_ascending) (by decide +kernel)) (fun _ _ _ _ _ => (pg_tup rfl (pgs_cons (pg_name (i := 1) nd rfl (by first | exact Or.inl rfl | exact Or.inr rfl)) (pgs_cons (pg_name (i := 2) nd rfl (by first | exact Or.inl rfl | exact Or.inr rfl)) pgs_nil)))) (fun _ _ _ _ _ => pts_nil) (fun _ _ _ _ _ => (pe_cmpR (op_ltW (hu64 hr)) (pv 1) (pv 2) (nomark _)))) pa_nil)))))) (ss_is_ascending K)
end
end H52

namespace H52
noncomputable section
open PySem PySem.Spec PyProof.Rows L2 RZ AP
variable [Tbls]
theorem ok_is_name [Gd] {P : Program} {w : World} {K : PySem.W.Frag} {mg : Str → Option Value} {base : Heap} {f : Addr} {fd : FuncData} (b_all : mg "all" = none) (b_isinstance : mg "isinstance" = none) (b_len : mg "len" = none) (b_str : mg "str" = none) (F : FnP K "is_name" s_is_name f fd) : FnG P w K mg base CX0 1 f fd ["thing"] (spP 1 (runP 2 m_is_name)) :=
  have nd := sc_is_name.nd
  def_pure F sc_is_name (fun cdv hv A outer s H E hg hr => PSs.nox ((pss_cons (ps_if (pw_or (pt_not (pt_tr (pe_callB call_isi (by rfl) b_isinstance boot_isinstance (pa_cons (pv 0) (pa_cons (pe_bltn (v := .ty (Ty.nm .str)) (by rfl) b_str boot_str rfl) pa_nil))))) (pw_or1 (pt_not (pt_chain (op_leW (hu64 hr)) (op_leW (hu64 hr)) pe_int (pe_callB call_lenA (by rfl) b_len boot_len (pa_cons (pv 0) pa_nil)) pe_int)))).pt (pss_one (ps_ret pe_bl)) pss_nil) (pss_one (ps_ret (pe_callB (cr_all rfl) (by rfl) b_all boot_all (pa_cons (pe_lc (own := [("letter", 1)]) (g := (gName 1)) (tt := tYes) rfl nd  (pi_any (pv 0)) (blkOk_by (N := N_is_name) (sc := defScope s_is_name) (by decide +kernel)) (fun _ _ _ _ _ => (pg_name (i := 1) nd rfl (by first | exact Or.inl rfl | exact Or.inr rfl))) (fun _ _ _ _ _ => pts_nil) (fun _ _ _ _ _ => (pe_chain (op_leW (hu64 hr)) (op_leW (hu64 hr)) pe_str (pv 1) pe_str))) pa_nil))))))) (ss_is_name K)
theorem ok_is_name_pair [Gd] {P : Program} {w : World} {K : PySem.W.Frag} {mg : Str → Option Value} {base : Heap} {f : Addr} {fd : FuncData} {f_is_pair : Addr} {fd_is_pair : FuncData} (C_is_pair : Cal P w K mg base "is_pair" 1 ["thing"] (spP 1 (runP 1 m_is_pair)) f_is_pair fd_is_pair) {f_is_name : Addr} {fd_is_name : FuncData} (C_is_name : Cal P w K mg base "is_name" 1 ["thing"] (spP 1 (runP 2 m_is_name)) f_is_name fd_is_name) (F : FnP K "is_name_pair" s_is_name_pair f fd) : FnG P w K mg base CX0 2 f fd ["thing"] (spP 1 (runP 1 m_is_name_pair)) :=
  have nd := sc_is_name_pair.nd
  def_pure F sc_is_name_pair (fun cdv hv A outer s H E hg hr => PSs.nox ((pss_one (ps_ret (pe_andT (pe_calC C_is_pair hg hr (by decide) (by rfl) (pa_cons (pv 0) pa_nil)) (pe_andT (pe_calC C_is_name hg hr (by decide) (by rfl) (pa_cons (pe_ix (ix_A (hu64 hr)) (pv 0) pe_int (fun _ _ => rfl)) pa_nil)) (pe_one (pe_calC C_is_name hg hr (by decide) (by rfl) (pa_cons (pe_ix (ix_A (hu64 hr)) (pv 0) pe_int (fun _ _ => rfl)) pa_nil))))))))) (ss_is_name_pair K)
theorem ok_is_houses [Gd] {P : Program} {w : World} {K : PySem.W.Frag} {mg : Str → Option Value} {base : Heap} {f : Addr} {fd : FuncData} (b_all : mg "all" = none) (b_isinstance : mg "isinstance" = none) (b_tuple : mg "tuple" = none) {f_is_ascending : Addr} {fd_is_ascending : FuncData} (C_is_ascending : Cal P w K mg base "is_ascending" 1 ["values"] (spP 1 (runP 3 m_is_ascending)) f_is_ascending fd_is_ascending) {f_is_name : Addr} {fd_is_name : FuncData} (C_is_name : Cal P w K mg base "is_name" 1 ["thing"] (spP 1 (runP 2 m_is_name)) f_is_name fd_is_name) (F : FnP K "is_houses" s_is_houses f fd) : FnG P w K mg base CX0 2 f fd ["thing"] (spP 1 (runP 2 m_is_houses)) :=
  have nd := sc_is_houses.nd
  def_pure F sc_is_houses (fun cdv hv A outer s H E hg hr => PSs.nox ((pss_cons (ps_if (pw_or (pt_not (pt_tr (pe_callB call_isi (by rfl) b_isinstance boot_isinstance (pa_cons (pv 0) (pa_cons (pe_bltn (v := .ty (Ty.nm .tuple)) (by rfl) b_tuple boot_tuple rfl) pa_nil))))) (pw_or1 (pt_not (pt_tr (pv 0))))).pt (pss_one (ps_ret pe_bl)) pss_nil) (pss_one (ps_ret (pe_andT (pe_callB (cr_all rfl) (by rfl) b_all boot_all (pa_cons (pe_lc (own := [("name", 1)]) (g := (gName 1)) (tt := tYes) rfl nd  (pi_any (pv 0)) (blkOk_by (N := N_is_houses) (sc := defScope s_is_houses) (by decide +kernel)) (fun _ _ _ _ _ => (pg_name (i := 1) nd rfl (by first | exact Or.inl rfl | exact Or.inr rfl))) (fun _ _ _ _ _ => pts_nil) (fun _ _ _ _ _ => (pe_calC C_is_name hg hr (by decide) (by rfl) (pa_cons (pv 1) pa_nil)))) pa_nil)) (pe_one (pe_calC C_is_ascending hg hr (by decide) (by rfl) (pa_cons (pv 0) pa_nil))))))))) (ss_is_houses K)
theorem ok_is_wire [Gd] {P : Program} {w : World} {K : PySem.W.Frag} {mg : Str → Option Value} {base : Heap} {f : Addr} {fd : FuncData} {f_is_name_pair : Addr} {fd_is_name_pair : FuncData} (C_is_name_pair : Cal P w K mg base "is_name_pair" 2 ["thing"] (spP 1 (runP 1 m_is_name_pair)) f_is_name_pair fd_is_name_pair) (F : FnP K "is_wire" s_is_wire f fd) : FnG P w K mg base CX0 3 f fd ["thing"] (spP 1 (runP 1 m_is_wire)) :=
  have nd := sc_is_wire.nd
  def_pure F sc_is_wire (fun cdv hv A outer s H E hg hr => PSs.nox ((pss_one (ps_ret (pe_andT (pe_calC C_is_name_pair hg hr (by decide) (by rfl) (pa_cons (pv 0) pa_nil)) (pe_one (pe_cmpR (op_neU (hu64 hr)) (pe_ix (ix_A (hu64 hr)) (pv 0) pe_int (fun _ _ => rfl)) (pe_ix (ix_A (hu64 hr)) (pv 0) pe_int (fun _ _ => rfl)) (nomark _)))))))) (ss_is_wire K)
theorem ok_is_set_among [Gd] {P : Program} {w : World} {K : PySem.W.Frag} {mg : Str → Option Value} {base : Heap} {f : Addr} {fd : FuncData} (b_all : mg "all" = none) {f_is_houses : Addr} {fd_is_houses : FuncData} (C_is_houses : Cal P w K mg base "is_houses" 2 ["thing"] (spP 1 (runP 2 m_is_houses)) f_is_houses fd_is_houses) (F : FnP K "is_set_among" s_is_set_among f fd) : FnG P w K mg base CX0 3 f fd ["thing", "houses"] (spP 2 (runP 3 m_is_set_among)) :=
  have nd := sc_is_set_among.nd
  def_pure F sc_is_set_among (fun cdv hv A outer s H E hg hr => PSs.nox ((pss_one (ps_ret (pe_andT (pe_calC C_is_houses hg hr (by decide) (by rfl) (pa_cons (pv 0) pa_nil)) (pe_one (pe_callB (cr_all rfl) (by rfl) b_all boot_all (pa_cons (pe_lc (own := [("house", 2)]) (g := (gName 2)) (tt := tYes) rfl nd  (pi_any (pv 0)) (blkOk_by (N := N_is_set_among) (sc := defScope s_is_set_among) (by decide +kernel)) (fun _ _ _ _ _ => (pg_name (i := 2) nd rfl (by first | exact Or.inl rfl | exact Or.inr rfl))) (fun _ _ _ _ _ => pts_nil) (fun _ _ _ _ _ => (pe_cmpR (op_inA (hu65 hr)) (pv 2) (pv 1) (by with_unfolding_all rfl)))) pa_nil)))))))) (ss_is_set_among K)
theorem ok_is_wire_among [Gd] {P : Program} {w : World} {K : PySem.W.Frag} {mg : Str → Option Value} {base : Heap} {f : Addr} {fd : FuncData} {f_is_wire : Addr} {fd_is_wire : FuncData} (C_is_wire : Cal P w K mg base "is_wire" 3 ["thing"] (spP 1 (runP 1 m_is_wire)) f_is_wire fd_is_wire) (F : FnP K "is_wire_among" s_is_wire_among f fd) : FnG P w K mg base CX0 4 f fd ["thing", "houses"] (spP 2 (runP 2 m_is_wire_among)) :=
  have nd := sc_is_wire_among.nd
  def_pure F sc_is_wire_among (fun cdv hv A outer s H E hg hr => PSs.nox ((pss_one (ps_ret (pe_andT (pe_calC C_is_wire hg hr (by decide) (by rfl) (pa_cons (pv 0) pa_nil)) (pe_andT (pe_cmpR (op_inA (hu65 hr)) (pe_ix (ix_A (hu64 hr)) (pv 0) pe_int (fun _ _ => rfl)) (pv 1) (by with_unfolding_all rfl)) (pe_one (pe_cmpR (op_inA (hu65 hr)) (pe_ix (ix_A (hu64 hr)) (pv 0) pe_int (fun _ _ => rfl)) (pv 1) (by with_unfolding_all rfl))))))))) (ss_is_wire_among K)
theorem ok_lets_net [Gd] {P : Program} {w : World} {K : PySem.W.Frag} {mg : Str → Option Value} {base : Heap} {f : Addr} {fd : FuncData} (b_enumerate : mg "enumerate" = none) (b_isinstance : mg "isinstance" = none) (b_len : mg "len" = none) (b_tuple : mg "tuple" = none) {f_is_pair : Addr} {fd_is_pair : FuncData} (C_is_pair : Cal P w K mg base "is_pair" 1 ["thing"] (spP 1 (runP 1 m_is_pair)) f_is_pair fd_is_pair) {f_is_houses : Addr} {fd_is_houses : FuncData} (C_is_houses : Cal P w K mg base "is_houses" 2 ["thing"] (spP 1 (runP 2 m_is_houses)) f_is_houses fd_is_houses) {f_is_wire_among : Addr} {fd_is_wire_among : FuncData} (C_is_wire_among : Cal P w K mg base "is_wire_among" 4 ["thing", "houses"] (spP 2 (runP 2 m_is_wire_among)) f_is_wire_among fd_is_wire_among) (F : FnP K "lets_net" s_lets_net f fd) : FnG P w K mg base CX0 5 f fd ["thing"] (spP 1 (runP 7 m_lets_net)) :=
  have nd := sc_lets_net.nd
  def_pure F sc_lets_net (fun cdv hv A outer s H E hg hr => PSs.nox ((pss_cons (ps_if (pt_not (pt_tr (pe_calC C_is_pair hg hr (by decide) (by rfl) (pa_cons (pv 0) pa_nil)))) (pss_one ps_never) pss_nil) (pss_cons (ps_asg (pv 0) (pg_ei rfl (pgs_cons (pg_name (i := 2) nd rfl (Or.inl rfl)) (pgs_cons (pg_name (i := 3) nd rfl (Or.inl rfl)) pgs_nil)))) (pss_cons (ps_if (pt_not (pt_tr (pe_calC C_is_houses hg hr (by decide) (by rfl) (pa_cons (pv 2) pa_nil)))) (pss_one ps_never) pss_nil) (pss_cons (ps_if (pt_not (pt_tr (pe_callB call_isi (by rfl) b_isinstance boot_isinstance (pa_cons (pv 3) (pa_cons (pe_bltn (v := .ty (Ty.nm .tuple)) (by rfl) b_tuple boot_tuple rfl) pa_nil))))) (pss_one ps_never) pss_nil) (pss_cons (ps_setDc (i := 1) (own := [("house", 6)]) (g := (gName 6)) (tt := tYes) rfl nd rfl rfl (swD_true rfl rfl rfl (by decide +kernel)) (pi_any (pv 2)) (blkOk_by (N := N_lets_net) (sc := defScope s_lets_net) (by decide +kernel)) (fun _ _ _ _ _ => (pg_name (i := 6) nd rfl (by first | exact Or.inl rfl | exact Or.inr rfl))) (fun _ _ _ _ _ => pts_nil) (fun _ _ _ _ _ => (pv 6)) (fun _ _ _ _ _ => pe_bl)) (pss_cons (ps_for PassesOwn.never rfl (pi_enA (by rfl) b_enumerate (pa_cons (pv 3) pa_nil)) (pg_tup rfl (pgs_cons (pg_name (i := 4) nd rfl (Or.inl rfl)) (pgs_cons (pg_name (i := 5) nd rfl (Or.inl rfl)) pgs_nil))) (pss_one (ps_if (pt_not (pt_tr (pe_calC C_is_wire_among hg hr (by decide) (by rfl) (pa_cons (pv 5) (pa_cons (pv 1) pa_nil))))) (pss_one ps_never) pss_nil))) (pss_one (ps_ret (pe_callB call_lenA (by rfl) b_len boot_len (pa_cons (pv 3) pa_nil)))))))))))) (ss_lets_net K)
end
end H52

namespace H52
noncomputable section
open PySem PySem.Spec PyProof.Rows L2 RZ AP
variable [Tbls]
theorem ok_need_net [Gd] {P : Program} {w : World} {K : PySem.W.Frag} {mg : Str → Option Value} {base : Heap} {f : Addr} {fd : FuncData} {f_lets_net : Addr} {fd_lets_net : FuncData} (C_lets_net : Cal P w K mg base "lets_net" 5 ["thing"] (spP 1 (runP 7 m_lets_net)) f_lets_net fd_lets_net) (F : FnP K "need_net" s_need_net f fd) : FnG P w K mg base CX0 6 f fd ["net"] (spP 1 (runP 1 m_need_net)) :=
  have nd := sc_need_net.nd
  def_pure F sc_need_net (fun cdv hv A outer s H E hg hr => PSs.nox ((pss_one (ps_try_thru0 (pss_one (ps_expr (pe_calC C_lets_net hg hr (by decide) (by rfl) (pa_cons (pv 0) pa_nil)))))))) (ss_need_net K)
theorem ok_need_house [Gd] {P : Program} {w : World} {K : PySem.W.Frag} {mg : Str → Option Value} {base : Heap} {f : Addr} {fd : FuncData} (F : FnP K "need_house" s_need_house f fd) : FnG P w K mg base CX0 1 f fd ["net", "house"] (spP 2 (runP 2 m_need_house)) :=
  have nd := sc_need_house.nd
  def_pure F sc_need_house (fun cdv hv A outer s H E hg hr => PSs.nox ((pss_one (ps_if (pt_cmpR (op_notInA (hu65 hr)) (pv 1) (pe_ix (ix_A (hu64 hr)) (pv 0) pe_int (fun _ _ => rfl)) (by with_unfolding_all rfl)) (pss_one ps_never) pss_nil)))) (ss_need_house K)
theorem ok_lets_holders [Gd] {P : Program} {w : World} {K : PySem.W.Frag} {mg : Str → Option Value} {base : Heap} {f : Addr} {fd : FuncData} (b_enumerate : mg "enumerate" = none) (b_isinstance : mg "isinstance" = none) (b_len : mg "len" = none) (b_tuple : mg "tuple" = none) {f_is_set_among : Addr} {fd_is_set_among : FuncData} (C_is_set_among : Cal P w K mg base "is_set_among" 3 ["thing", "houses"] (spP 2 (runP 3 m_is_set_among)) f_is_set_among fd_is_set_among) {f_need_net : Addr} {fd_need_net : FuncData} (C_need_net : Cal P w K mg base "need_net" 6 ["net"] (spP 1 (runP 1 m_need_net)) f_need_net fd_need_net) (F : FnP K "lets_holders" s_lets_holders f fd) : FnG P w K mg base CX0 7 f fd ["net", "thing"] (spP 2 (runP 6 m_lets_holders)) :=
  have nd := sc_lets_holders.nd
  def_pure F sc_lets_holders (fun cdv hv A outer s H E hg hr => PSs.nox ((pss_cons (ps_expr (pe_calC C_need_net hg hr (by decide) (by rfl) (pa_cons (pv 0) pa_nil))) (pss_cons (ps_if (pt_not (pt_tr (pe_callB call_isi (by rfl) b_isinstance boot_isinstance (pa_cons (pv 1) (pa_cons (pe_bltn (v := .ty (Ty.nm .tuple)) (by rfl) b_tuple boot_tuple rfl) pa_nil))))) (pss_one ps_never) pss_nil) (pss_cons (ps_setDc (i := 2) (own := [("house", 5)]) (g := (gName 5)) (tt := tYes) rfl nd rfl rfl (swD_true rfl rfl rfl (by decide +kernel)) (pi_any (pe_ix (ix_A (hu64 hr)) (pv 0) pe_int (fun _ _ => rfl))) (blkOk_by (N := N_lets_holders) (sc := defScope s_lets_holders) (by decide +kernel)) (fun _ _ _ _ _ => (pg_name (i := 5) nd rfl (by first | exact Or.inl rfl | exact Or.inr rfl))) (fun _ _ _ _ _ => pts_nil) (fun _ _ _ _ _ => (pv 5)) (fun _ _ _ _ _ => pe_bl)) (pss_cons (ps_for PassesOwn.never rfl (pi_enA (by rfl) b_enumerate (pa_cons (pv 1) pa_nil)) (pg_tup rfl (pgs_cons (pg_name (i := 3) nd rfl (Or.inl rfl)) (pgs_cons (pg_name (i := 4) nd rfl (Or.inl rfl)) pgs_nil))) (pss_one (ps_if (pt_not (pt_tr (pe_calC C_is_set_among hg hr (by decide) (by rfl) (pa_cons (pv 4) (pa_cons (pv 2) pa_nil))))) (pss_one ps_never) pss_nil))) (pss_one (ps_ret (pe_callB call_lenA (by rfl) b_len boot_len (pa_cons (pv 1) pa_nil)))))))))) (ss_lets_holders K)
theorem ok_need_holders [Gd] {P : Program} {w : World} {K : PySem.W.Frag} {mg : Str → Option Value} {base : Heap} {f : Addr} {fd : FuncData} {f_lets_holders : Addr} {fd_lets_holders : FuncData} (C_lets_holders : Cal P w K mg base "lets_holders" 7 ["net", "thing"] (spP 2 (runP 6 m_lets_holders)) f_lets_holders fd_lets_holders) (F : FnP K "need_holders" s_need_holders f fd) : FnG P w K mg base CX0 8 f fd ["net", "holders"] (spP 2 (runP 2 m_need_holders)) :=
  have nd := sc_need_holders.nd
  def_pure F sc_need_holders (fun cdv hv A outer s H E hg hr => PSs.nox ((pss_one (ps_try_thru0 (pss_one (ps_expr (pe_calC C_lets_holders hg hr (by decide) (by rfl) (pa_cons (pv 0) (pa_cons (pv 1) pa_nil))))))))) (ss_need_holders K)
theorem ok_need_piece [Gd] {P : Program} {w : World} {K : PySem.W.Frag} {mg : Str → Option Value} {base : Heap} {f : Addr} {fd : FuncData} (b_len : mg "len" = none) {f_is_number : Addr} {fd_is_number : FuncData} (C_is_number : Cal P w K mg base "is_number" 2 ["thing"] (spP 1 (runP 1 m_is_number)) f_is_number fd_is_number) (F : FnP K "need_piece" s_need_piece f fd) : FnG P w K mg base CX0 3 f fd ["holders", "piece"] (spP 2 (runP 2 m_need_piece)) :=
  have nd := sc_need_piece.nd
  def_pure F sc_need_piece (fun cdv hv A outer s H E hg hr => PSs.nox ((pss_one (ps_if (pw_or (pt_not (pt_tr (pe_calC C_is_number hg hr (by decide) (by rfl) (pa_cons (pv 1) pa_nil)))) (pw_or1 (pt_cmpR (op_geW (hu64 hr)) (pv 1) (pe_callB call_lenA (by rfl) b_len boot_len (pa_cons (pv 0) pa_nil)) (nomark _)))).pt (pss_one ps_never) pss_nil)))) (ss_need_piece K)
theorem ok_comers_to [Gd] {P : Program} {w : World} {K : PySem.W.Frag} {mg : Str → Option Value} {base : Heap} {f : Addr} {fd : FuncData} (b_enumerate : mg "enumerate" = none) (b_list : mg "list" = none) (F : FnP K "comers_to" s_comers_to f fd) : FnG P w K mg base CX0 1 f fd ["net", "held", "giving", "piece"] (spP 4 (runP 11 m_comers_to)) :=
  have nd := sc_comers_to.nd
  def_pure F sc_comers_to (fun cdv hv A outer s H E hg hr => PSs.nox ((pss_cons (ps_setLc (i := 4) (own := [("wire", 8), ("source", 9), ("target", 10)]) (g := (gTup K 2 (gCons (gName 8) (gCons (gTup K 2 (gCons (gName 9) (gCons (gName 10) gNil))) gNil)))) (tt := (tTest (tOp (rEqU K) (tOp (rIxA K) (tVar 2) (tVar 8)) (tVar 3)))) rfl nd rfl rfl (sw_true rfl rfl rfl (by decide +kernel)) (pi_enA (by rfl) b_enumerate (pa_cons (pe_ix (ix_A (hu64 hr)) (pv 0) pe_int (fun _ _ => rfl)) pa_nil)) (blkOk_by (N := N_comers_to) (sc := defScope s_comers_to) (by decide +kernel)) (fun _ _ _ _ _ => (pg_tup rfl (pgs_cons (pg_name (i := 8) nd rfl (by first | exact Or.inl rfl | exact Or.inr rfl)) (pgs_cons (pg_tup rfl (pgs_cons (pg_name (i := 9) nd rfl (by first | exact Or.inl rfl | exact Or.inr rfl)) (pgs_cons (pg_name (i := 10) nd rfl (by first | exact Or.inl rfl | exact Or.inr rfl)) pgs_nil))) pgs_nil)))) (fun _ _ _ _ _ => (pts_one (pt_cmpR (op_eqU (hu64 hr)) (pe_ix (ix_A (hu64 hr)) (pv 2) (pv 8) (fun _ _ => rfl)) (pv 3) (nomark _)))) (fun _ _ _ _ _ => (pe_tupF (pa_cons (pv 8) (pa_cons (pv 9) (pa_cons (pv 10) pa_nil)))))) (pss_cons (ps_setDc (i := 5) (own := [("house", 7)]) (g := (gName 7)) (tt := tYes) rfl nd rfl rfl (swD_true rfl rfl rfl (by decide +kernel)) (pi_any (pv 1)) (blkOk_by (N := N_comers_to) (sc := defScope s_comers_to) (by decide +kernel)) (fun _ _ _ _ _ => (pg_name (i := 7) nd rfl (by first | exact Or.inl rfl | exact Or.inr rfl))) (fun _ _ _ _ _ => pts_nil) (fun _ _ _ _ _ => (pv 7)) (fun _ _ _ _ _ => (pe_un un_neg pe_int))) (pss_cons (ps_set (i := 6) nd rfl (Or.inl rfl) (pe_callTy call_list_of (by rfl) b_list boot_list (pa_cons (pv 1) pa_nil))) (pss_cons (ps_while PassesOwn.never (pt_tr (pv 6)) (pss_cons (ps_set (i := 7) nd rfl (Or.inl rfl) (pe_bm0 PySem.F.plainAttrs_list PySem.F.slot_list_pop PySem.F.type_list_pop mt_pop (pv 6))) (pss_one (ps_for PassesOwn.never rfl (pi_any (pv 4)) (pg_tup rfl (pgs_cons (pg_name (i := 8) nd rfl (Or.inl rfl)) (pgs_cons (pg_name (i := 9) nd rfl (Or.inl rfl)) (pgs_cons (pg_name (i := 10) nd rfl (Or.inl rfl)) pgs_nil)))) (pss_one (ps_if (pw_and (pt_cmpR (op_eqU (hu64 hr)) (pv 9) (pv 7) (nomark _)) (pw_and1 (pt_cmpR (op_notInA (hu65 hr)) (pv 10) (pv 5) (by with_unfolding_all rfl)))).pt (pss_cons (ps_dput (hu1 hr) (pv 5) (pv 10) (pv 8) rfl) (pss_one (ps_expr (pe_bm PySem.F.plainAttrs_list PySem.F.slot_list_append PySem.F.type_list_append mt_append (pv 6) (pa_cons (pv 10) pa_nil))))) pss_nil)))))) (pss_one (ps_ret (pv 5))))))))) (ss_comers_to K)
theorem ok_comers [Gd] {P : Program} {w : World} {K : PySem.W.Frag} {mg : Str → Option Value} {base : Heap} {f : Addr} {fd : FuncData} (b_enumerate : mg "enumerate" = none) {f_comers_to : Addr} {fd_comers_to : FuncData} (C_comers_to : Cal P w K mg base "comers_to" 1 ["net", "held", "giving", "piece"] (spP 4 (runP 11 m_comers_to)) f_comers_to fd_comers_to) (F : FnP K "comers" s_comers f fd) : FnG P w K mg base CX0 2 f fd ["net", "holders", "giving"] (spP 3 (runP 5 m_comers)) :=
  have nd := sc_comers.nd
  def_pure F sc_comers (fun cdv hv A outer s H E hg hr => PSs.nox ((pss_one (ps_ret (pe_lc (own := [("piece", 3), ("held", 4)]) (g := (gTup K 2 (gCons (gName 3) (gCons (gName 4) gNil)))) (tt := tYes) rfl nd  (pi_enA (by rfl) b_enumerate (pa_cons (pv 1) pa_nil)) (blkOk_by (N := N_comers) (sc := defScope s_comers) (by decide +kernel)) (fun _ _ _ _ _ => (pg_tup rfl (pgs_cons (pg_name (i := 3) nd rfl (by first | exact Or.inl rfl | exact Or.inr rfl)) (pgs_cons (pg_name (i := 4) nd rfl (by first | exact Or.inl rfl | exact Or.inr rfl)) pgs_nil)))) (fun _ _ _ _ _ => pts_nil) (fun _ _ _ _ _ => (pe_calC C_comers_to hg hr (by decide) (by rfl) (pa_cons (pv 0) (pa_cons (pv 4) (pa_cons (pv 2) (pa_cons (pv 3) pa_nil))))))))))) (ss_comers K)
theorem ok_lets_giving [Gd] {P : Program} {w : World} {K : PySem.W.Frag} {mg : Str → Option Value} {base : Heap} {f : Addr} {fd : FuncData} (b_enumerate : mg "enumerate" = none) (b_isinstance : mg "isinstance" = none) (b_len : mg "len" = none) (b_tuple : mg "tuple" = none) {f_is_integer : Addr} {fd_is_integer : FuncData} (C_is_integer : Cal P w K mg base "is_integer" 1 ["thing"] (spP 1 (runP 1 m_is_integer)) f_is_integer fd_is_integer) {f_need_holders : Addr} {fd_need_holders : FuncData} (C_need_holders : Cal P w K mg base "need_holders" 8 ["net", "holders"] (spP 2 (runP 2 m_need_holders)) f_need_holders fd_need_holders) {f_comers : Addr} {fd_comers : FuncData} (C_comers : Cal P w K mg base "comers" 2 ["net", "holders", "giving"] (spP 3 (runP 5 m_comers)) f_comers fd_comers) (F : FnP K "lets_giving" s_lets_giving f fd) : FnG P w K mg base CX0 9 f fd ["net", "holders", "thing"] (spP 3 (runP 7 m_lets_giving)) :=
  have nd := sc_lets_giving.nd
  def_pure F sc_lets_giving (fun cdv hv A outer s H E hg hr => PSs.nox ((pss_cons (ps_expr (pe_calC C_need_holders hg hr (by decide) (by rfl) (pa_cons (pv 0) (pa_cons (pv 1) pa_nil)))) (pss_cons (ps_set (i := 3) nd rfl (Or.inl rfl) (pe_ix (ix_A (hu64 hr)) (pv 0) pe_int (fun _ _ => rfl))) (pss_cons (ps_if (pw_or (pt_not (pt_tr (pe_callB call_isi (by rfl) b_isinstance boot_isinstance (pa_cons (pv 2) (pa_cons (pe_bltn (v := .ty (Ty.nm .tuple)) (by rfl) b_tuple boot_tuple rfl) pa_nil))))) (pw_or1 (pt_cmpR (op_neU (hu64 hr)) (pe_callB call_lenA (by rfl) b_len boot_len (pa_cons (pv 2) pa_nil)) (pe_callB call_lenA (by rfl) b_len boot_len (pa_cons (pv 3) pa_nil)) (nomark _)))).pt (pss_one ps_never) pss_nil) (pss_cons (ps_for PassesOwn.never rfl (pi_enA (by rfl) b_enumerate (pa_cons (pv 2) pa_nil)) (pg_tup rfl (pgs_cons (pg_name (i := 5) nd rfl (Or.inl rfl)) (pgs_cons (pg_name (i := 6) nd rfl (Or.inl rfl)) pgs_nil))) (pss_one (ps_if (pw_or (pt_not (pt_tr (pe_calC C_is_integer hg hr (by decide) (by rfl) (pa_cons (pv 6) pa_nil)))) (pw_or1 (pt_not (pt_chain (op_leW (hu64 hr)) (op_ltW (hu64 hr)) (pe_un un_neg pe_int) (pv 6) (pe_callB call_lenA (by rfl) b_len boot_len (pa_cons (pv 1) pa_nil)))))).pt (pss_one ps_never) pss_nil))) (pss_cons (ps_set (i := 4) nd rfl (Or.inl rfl) (pe_calC C_comers hg hr (by decide) (by rfl) (pa_cons (pv 0) (pa_cons (pv 1) (pa_cons (pv 2) pa_nil))))) (pss_cons (ps_for PassesOwn.never rfl (pi_enA (by rfl) b_enumerate (pa_cons (pv 2) pa_nil)) (pg_tup rfl (pgs_cons (pg_name (i := 5) nd rfl (Or.inl rfl)) (pgs_cons (pg_name (i := 6) nd rfl (Or.inl rfl)) pgs_nil))) (pss_one (ps_if (pw_and (pt_cmpR (op_neU (hu64 hr)) (pv 6) (pe_un un_neg pe_int) (nomark _)) (pw_and1 (pt_cmpR (op_notInA (hu65 hr)) (pe_ix (ix_A (hu64 hr)) (pe_ix (ix_A (hu64 hr)) (pv 3) (pv 5) (fun _ _ => rfl)) pe_int (fun _ _ => rfl)) (pe_ix (ix_A (hu64 hr)) (pv 4) (pv 6) (fun _ _ => rfl)) (by with_unfolding_all rfl)))).pt (pss_one ps_never) pss_nil))) (pss_one (ps_ret (pe_op op_sub (pe_callB call_lenA (by rfl) b_len boot_len (pa_cons (pv 2) pa_nil)) (pe_count (hu65 hr) (pv 2) (pe_un un_neg pe_int))))))))))))) (ss_lets_giving K)
end
end H52

namespace H52
noncomputable section
open PySem PySem.Spec PyProof.Rows L2 RZ AP
variable [Tbls]
theorem ok_need_giving [Gd] {P : Program} {w : World} {K : PySem.W.Frag} {mg : Str → Option Value} {base : Heap} {f : Addr} {fd : FuncData} {f_lets_giving : Addr} {fd_lets_giving : FuncData} (C_lets_giving : Cal P w K mg base "lets_giving" 9 ["net", "holders", "thing"] (spP 3 (runP 7 m_lets_giving)) f_lets_giving fd_lets_giving) (F : FnP K "need_giving" s_need_giving f fd) : FnG P w K mg base CX0 10 f fd ["net", "holders", "giving"] (spP 3 (runP 3 m_need_giving)) :=
  have nd := sc_need_giving.nd
  def_pure F sc_need_giving (fun cdv hv A outer s H E hg hr => PSs.nox ((pss_one (ps_try_thru0 (pss_one (ps_expr (pe_calC C_lets_giving hg hr (by decide) (by rfl) (pa_cons (pv 0) (pa_cons (pv 1) (pa_cons (pv 2) pa_nil)))))))))) (ss_need_giving K)
theorem ok_laid [Gd] {P : Program} {w : World} {K : PySem.W.Frag} {mg : Str → Option Value} {base : Heap} {f : Addr} {fd : FuncData} (b_sorted : mg "sorted" = none) (b_tuple : mg "tuple" = none) {f_need_house : Addr} {fd_need_house : FuncData} (C_need_house : Cal P w K mg base "need_house" 1 ["net", "house"] (spP 2 (runP 2 m_need_house)) f_need_house fd_need_house) {f_need_holders : Addr} {fd_need_holders : FuncData} (C_need_holders : Cal P w K mg base "need_holders" 8 ["net", "holders"] (spP 2 (runP 2 m_need_holders)) f_need_holders fd_need_holders) {f_need_piece : Addr} {fd_need_piece : FuncData} (C_need_piece : Cal P w K mg base "need_piece" 3 ["holders", "piece"] (spP 2 (runP 2 m_need_piece)) f_need_piece fd_need_piece) (F : FnP K "laid" s_laid f fd) : FnG P w K mg base CX0 9 f fd ["net", "holders", "piece", "house"] (spP 4 (runP 5 m_laid)) :=
  have nd := sc_laid.nd
  def_pure F sc_laid (fun cdv hv A outer s H E hg hr => PSs.nox ((pss_cons (ps_expr (pe_calC C_need_holders hg hr (by decide) (by rfl) (pa_cons (pv 0) (pa_cons (pv 1) pa_nil)))) (pss_cons (ps_expr (pe_calC C_need_piece hg hr (by decide) (by rfl) (pa_cons (pv 1) (pa_cons (pv 2) pa_nil)))) (pss_cons (ps_expr (pe_calC C_need_house hg hr (by decide) (by rfl) (pa_cons (pv 0) (pa_cons (pv 3) pa_nil)))) (pss_cons (ps_set (i := 4) nd rfl (Or.inl rfl) (pe_ix (ix_A (hu64 hr)) (pv 1) (pv 2) (fun _ _ => rfl))) (pss_cons (ps_if (pt_cmpR (op_inA (hu65 hr)) (pv 3) (pv 4) (by with_unfolding_all rfl)) (pss_one ps_never) pss_nil) (pss_one (ps_ret (pe_tupF (StX.pa_star (pe_slice sl_U (pv 1) po_none (po_some (pv 2))) (pa_cons (pe_callTy call_tupleF (by rfl) b_tuple boot_tuple (pa_cons (pe_callB (cr_sortX rfl (hu64 hr)) (by rfl) b_sorted boot_sorted (pa_cons (pe_lst (StX.pa_star (pv 4) (pa_cons (pv 3) pa_nil))) pa_nil)) pa_nil)) (StX.pa_star (pe_slice sl_U (pv 1) (po_some (pe_op op_addU (pv 2) pe_int)) po_none) pa_nil))))))))))))) (ss_laid K)
theorem ok_lacked_by [Gd] {P : Program} {w : World} {K : PySem.W.Frag} {mg : Str → Option Value} {base : Heap} {f : Addr} {fd : FuncData} (b_any : mg "any" = none) (b_enumerate : mg "enumerate" = none) (b_tuple : mg "tuple" = none) (F : FnP K "lacked_by" s_lacked_by f fd) : FnG P w K mg base CX0 1 f fd ["found", "houses"] (spP 2 (runP 5 m_lacked_by)) :=
  have nd := sc_lacked_by.nd
  def_pure F sc_lacked_by (fun cdv hv A outer s H E hg hr => PSs.nox ((pss_one (ps_ret (pe_callTy call_tupleF (by rfl) b_tuple boot_tuple (pa_cons (pe_lc (own := [("piece", 2), ("owners", 3)]) (g := (gTup K 2 (gCons (gName 2) (gCons (gName 3) gNil)))) (tt := (tNot (tTr K (tCB (rAny K) (tCons (tLc (iAny K (tVar 1)) (gName 4) tYes (tOp (rInA K fun b => b) (tVar 4) (tVar 3)) [4]) tNil))))) rfl nd  (pi_enA (by rfl) b_enumerate (pa_cons (pv 0) pa_nil)) (blkOk_by (N := N_lacked_by) (sc := defScope s_lacked_by) (by decide +kernel)) (fun _ _ _ _ _ => (pg_tup rfl (pgs_cons (pg_name (i := 2) nd rfl (by first | exact Or.inl rfl | exact Or.inr rfl)) (pgs_cons (pg_name (i := 3) nd rfl (by first | exact Or.inl rfl | exact Or.inr rfl)) pgs_nil)))) (fun _ _ _ _ _ => (pts_one (pt_not (pt_tr (pe_callB (cr_any rfl) (by rfl) b_any boot_any (pa_cons (pe_lc (own := [("house", 4)]) (g := (gName 4)) (tt := tYes) rfl nd  (pi_any (pv 1)) (blkOk_by (N := N_lacked_by) (by kernel_rfl)) (fun _ _ _ _ _ => (pg_name (i := 4) nd rfl (by first | exact Or.inl rfl | exact Or.inr rfl))) (fun _ _ _ _ _ => pts_nil) (fun _ _ _ _ _ => (pe_cmpR (op_inA (hu65 hr)) (pv 4) (pv 3) (by with_unfolding_all rfl)))) pa_nil)))))) (fun _ _ _ _ _ => (pv 2))) pa_nil)))))) (ss_lacked_by K)
theorem ok__need_numbers [Gd] {P : Program} {w : World} {K : PySem.W.Frag} {mg : Str → Option Value} {base : Heap} {f : Addr} {fd : FuncData} (b_all : mg "all" = none) (b_isinstance : mg "isinstance" = none) (b_len : mg "len" = none) (b_tuple : mg "tuple" = none) {f_is_number : Addr} {fd_is_number : FuncData} (C_is_number : Cal P w K mg base "is_number" 2 ["thing"] (spP 1 (runP 1 m_is_number)) f_is_number fd_is_number) (F : FnP K "_need_numbers" s__need_numbers f fd) : FnG P w K mg base CX0 3 f fd ["net", "numbers"] (spP 2 (runP 3 m__need_numbers)) :=
  have nd := sc__need_numbers.nd
  def_pure F sc__need_numbers (fun cdv hv A outer s H E hg hr => PSs.nox ((pss_one (ps_if (pw_or (pt_not (pt_tr (pe_callB call_isi (by rfl) b_isinstance boot_isinstance (pa_cons (pv 1) (pa_cons (pe_bltn (v := .ty (Ty.nm .tuple)) (by rfl) b_tuple boot_tuple rfl) pa_nil))))) (pw_or (pt_cmpR (op_neU (hu64 hr)) (pe_callB call_lenA (by rfl) b_len boot_len (pa_cons (pv 1) pa_nil)) (pe_callB call_lenA (by rfl) b_len boot_len (pa_cons (pe_ix (ix_A (hu64 hr)) (pv 0) pe_int (fun _ _ => rfl)) pa_nil)) (nomark _)) (pw_or1 (pt_not (pt_tr (pe_callB (cr_all rfl) (by rfl) b_all boot_all (pa_cons (pe_lc (own := [("k", 2)]) (g := (gName 2)) (tt := tYes) rfl nd  (pi_any (pv 1)) (blkOk_by (N := N__need_numbers) (sc := defScope s__need_numbers) (by decide +kernel)) (fun _ _ _ _ _ => (pg_name (i := 2) nd rfl (by first | exact Or.inl rfl | exact Or.inr rfl))) (fun _ _ _ _ _ => pts_nil) (fun _ _ _ _ _ => (pe_calC C_is_number hg hr (by decide) (by rfl) (pa_cons (pv 2) pa_nil)))) pa_nil))))))).pt (pss_one ps_never) pss_nil)))) (ss__need_numbers K)
theorem ok__stocks [Gd] {P : Program} {w : World} {K : PySem.W.Frag} {mg : Str → Option Value} {base : Heap} {f : Addr} {fd : FuncData} (b_zip : mg "zip" = none) {f_single_stocks : Addr} {fd_single_stocks : FuncData} (C_single_stocks : Cal P w K mg base "single_stocks" 1 ["found"] (spP 1 (runP 2 m_single_stocks)) f_single_stocks fd_single_stocks) (F : FnP K "_stocks" s__stocks f fd) : FnG P w K mg base CX0 2 f fd ["net", "found", "numbers"] (spP 3 (runP 5 m__stocks)) :=
  have nd := sc__stocks.nd
  def_pure F sc__stocks (fun cdv hv A outer s H E hg hr => PSs.nox ((pss_one (ps_ret (pe_op op_addU (pe_calC C_single_stocks hg hr (by decide) (by rfl) (pa_cons (pv 1) pa_nil)) (pe_lc (own := [("house", 3), ("number", 4)]) (g := (gTup K 2 (gCons (gName 3) (gCons (gName 4) gNil)))) (tt := tYes) rfl nd  (pi_zipX (by rfl) b_zip (pa_cons (pe_ix (ix_A (hu64 hr)) (pv 0) pe_int (fun _ _ => rfl)) (pa_cons (pv 2) pa_nil))) (blkOk_by (N := N__stocks) (sc := defScope s__stocks) (by decide +kernel)) (fun _ _ _ _ _ => (pg_tup rfl (pgs_cons (pg_name (i := 3) nd rfl (by first | exact Or.inl rfl | exact Or.inr rfl)) (pgs_cons (pg_name (i := 4) nd rfl (by first | exact Or.inl rfl | exact Or.inr rfl)) pgs_nil)))) (fun _ _ _ _ _ => pts_nil) (fun _ _ _ _ _ => (pe_tupF (pa_cons (pe_tupF (pa_cons (pv 3) pa_nil)) (pa_cons (pv 4) pa_nil)))))))))) (ss__stocks K)
theorem ok__least_room [Gd] {P : Program} {w : World} {K : PySem.W.Frag} {mg : Str → Option Value} {base : Heap} {f : Addr} {fd : FuncData} (b_len : mg "len" = none) {f_most_brought : Addr} {fd_most_brought : FuncData} (C_most_brought : Cal P w K mg base "most_brought" 5 ["links", "stocks", "house"] (spP 3 (runP 9 m_most_brought)) f_most_brought fd_most_brought) {f_free_links : Addr} {fd_free_links : FuncData} (C_free_links : Cal P w K mg base "free_links" 1 ["net", "giving"] (spP 2 (runP 5 m_free_links)) f_free_links fd_free_links) {f__stocks : Addr} {fd__stocks : FuncData} (C__stocks : Cal P w K mg base "_stocks" 2 ["net", "found", "numbers"] (spP 3 (runP 5 m__stocks)) f__stocks fd__stocks) (F : FnP K "_least_room" s__least_room f fd) : FnG P w K mg base CX0 6 f fd ["net", "found", "giving", "numbers", "house"] (spP 5 (runP 5 m__least_room)) :=
  have nd := sc__least_room.nd
  def_pure F sc__least_room (fun cdv hv A outer s H E hg hr => PSs.nox ((pss_one (ps_ret (pe_op op_sub (pe_calC C_most_brought hg hr (by decide) (by rfl) (pa_cons (pe_calC C_free_links hg hr (by decide) (by rfl) (pa_cons (pv 0) (pa_cons (pv 2) pa_nil))) (pa_cons (pe_calC C__stocks hg hr (by decide) (by rfl) (pa_cons (pv 0) (pa_cons (pv 1) (pa_cons (pv 3) pa_nil)))) (pa_cons (pv 4) pa_nil)))) (pe_callB call_lenA (by rfl) b_len boot_len (pa_cons (pv 1) pa_nil))))))) (ss__least_room K)
theorem ok_enough [Gd] {P : Program} {w : World} {K : PySem.W.Frag} {mg : Str → Option Value} {base : Heap} {f : Addr} {fd : FuncData} (b_all : mg "all" = none) {f_comers : Addr} {fd_comers : FuncData} (C_comers : Cal P w K mg base "comers" 2 ["net", "holders", "giving"] (spP 3 (runP 5 m_comers)) f_comers fd_comers) {f_need_giving : Addr} {fd_need_giving : FuncData} (C_need_giving : Cal P w K mg base "need_giving" 10 ["net", "holders", "giving"] (spP 3 (runP 3 m_need_giving)) f_need_giving fd_need_giving) {f__need_numbers : Addr} {fd__need_numbers : FuncData} (C__need_numbers : Cal P w K mg base "_need_numbers" 3 ["net", "numbers"] (spP 2 (runP 3 m__need_numbers)) f__need_numbers fd__need_numbers) {f__least_room : Addr} {fd__least_room : FuncData} (C__least_room : Cal P w K mg base "_least_room" 6 ["net", "found", "giving", "numbers", "house"] (spP 5 (runP 5 m__least_room)) f__least_room fd__least_room) (F : FnP K "enough" s_enough f fd) : FnG P w K mg base CX0 11 f fd ["net", "holders", "giving", "numbers"] (spP 4 (runP 6 m_enough)) :=
  have nd := sc_enough.nd
  def_pure F sc_enough (fun cdv hv A outer s H E hg hr => PSs.nox ((pss_cons (ps_expr (pe_calC C_need_giving hg hr (by decide) (by rfl) (pa_cons (pv 0) (pa_cons (pv 1) (pa_cons (pv 2) pa_nil))))) (pss_cons (ps_expr (pe_calC C__need_numbers hg hr (by decide) (by rfl) (pa_cons (pv 0) (pa_cons (pv 3) pa_nil)))) (pss_cons (ps_set (i := 4) nd rfl (Or.inr rfl) (pe_calC C_comers hg hr (by decide) (by rfl) (pa_cons (pv 0) (pa_cons (pv 1) (pa_cons (pv 2) pa_nil))))) (pss_one (ps_ret (pe_callB (cr_all rfl) (by rfl) b_all boot_all (pa_cons (pe_lc (own := [("house", 5)]) (g := (gName 5)) (tt := tYes) rfl nd  (pi_any (pe_ix (ix_A (hu64 hr)) (pv 0) pe_int (fun _ _ => rfl))) (blkOk_by (N := N_enough) (sc := defScope s_enough) (by decide +kernel)) (fun _ _ _ _ _ => (pg_name (i := 5) nd rfl (by first | exact Or.inl rfl | exact Or.inr rfl))) (fun _ _ _ _ _ => pts_nil) (fun _ _ _ _ _ => (pe_cmpR (op_geW (hu64 hr)) (pe_calC C__least_room hg hr (by decide) (by rfl) (pa_cons (pv 0) (pa_cons (pv 4) (pa_cons (pv 2) (pa_cons (pv 3) (pa_cons (pv 5) pa_nil)))))) pe_int (nomark _)))) pa_nil))))))))) (ss_enough K)
end
end H52

namespace H52
noncomputable section
open PySem PySem.Spec PyProof.Rows L2 RZ AP
variable [Tbls]
theorem ok_spared [Gd] {P : Program} {w : World} {K : PySem.W.Frag} {mg : Str → Option Value} {base : Heap} {f : Addr} {fd : FuncData} (b_enumerate : mg "enumerate" = none) (b_list : mg "list" = none) (b_min : mg "min" = none) (b_tuple : mg "tuple" = none) {f_comers : Addr} {fd_comers : FuncData} (C_comers : Cal P w K mg base "comers" 2 ["net", "holders", "giving"] (spP 3 (runP 5 m_comers)) f_comers fd_comers) {f__least_room : Addr} {fd__least_room : FuncData} (C__least_room : Cal P w K mg base "_least_room" 6 ["net", "found", "giving", "numbers", "house"] (spP 5 (runP 5 m__least_room)) f__least_room fd__least_room) {f_enough : Addr} {fd_enough : FuncData} (C_enough : Cal P w K mg base "enough" 11 ["net", "holders", "giving", "numbers"] (spP 4 (runP 6 m_enough)) f_enough fd_enough) (F : FnP K "spared" s_spared f fd) : FnG P w K mg base CX0 12 f fd ["net", "holders", "giving", "numbers"] (spP 4 (runP 8 m_spared)) :=
  have nd := sc_spared.nd
  def_pure F sc_spared (fun cdv hv A outer s H E hg hr => PSs.nox ((pss_cons (ps_if (pt_not (pt_tr (pe_calC C_enough hg hr (by decide) (by rfl) (pa_cons (pv 0) (pa_cons (pv 1) (pa_cons (pv 2) (pa_cons (pv 3) pa_nil))))))) (pss_one (ps_ret pe_non)) pss_nil) (pss_cons (ps_set (i := 4) nd rfl (Or.inl rfl) (pe_calC C_comers hg hr (by decide) (by rfl) (pa_cons (pv 0) (pa_cons (pv 1) (pa_cons (pv 2) pa_nil))))) (pss_cons (ps_set (i := 5) nd rfl (Or.inl rfl) (pe_callTy call_list_of (by rfl) b_list boot_list (pa_cons (pv 3) pa_nil))) (pss_cons (ps_for PassesOwn.never rfl (pi_enA (by rfl) b_enumerate (pa_cons (pe_ix (ix_A (hu64 hr)) (pv 0) pe_int (fun _ _ => rfl)) pa_nil)) (pg_tup rfl (pgs_cons (pg_name (i := 6) nd rfl (Or.inl rfl)) (pgs_cons (pg_name (i := 7) nd rfl (Or.inl rfl)) pgs_nil))) (pss_one (ps_asg (pe_op op_sub (pe_ix (ix_A (hu64 hr)) (pv 5) (pv 6) (fun _ _ => rfl)) (pe_callB (cr_minW rfl (hu64 hr)) (by rfl) b_min boot_min (pa_cons (pe_ix (ix_A (hu64 hr)) (pv 5) (pv 6) (fun _ _ => rfl)) (pa_cons (pe_calC C__least_room hg hr (by decide) (by rfl) (pa_cons (pv 0) (pa_cons (pv 4) (pa_cons (pv 2) (pa_cons (pv 5) (pa_cons (pv 7) pa_nil)))))) pa_nil)))) (pg_sub (pv 5) (pv 6) set_list)))) (pss_one (ps_ret (pe_callTy call_tupleF (by rfl) b_tuple boot_tuple (pa_cons (pv 5) pa_nil)))))))))) (ss_spared K)
theorem ok_fewest_further [Gd] {P : Program} {w : World} {K : PySem.W.Frag} {mg : Str → Option Value} {base : Heap} {f : Addr} {fd : FuncData} (b_len : mg "len" = none) (b_tuple : mg "tuple" = none) {f_need_giving : Addr} {fd_need_giving : FuncData} (C_need_giving : Cal P w K mg base "need_giving" 10 ["net", "holders", "giving"] (spP 3 (runP 3 m_need_giving)) f_need_giving fd_need_giving) {f_spared : Addr} {fd_spared : FuncData} (C_spared : Cal P w K mg base "spared" 12 ["net", "holders", "giving", "numbers"] (spP 4 (runP 8 m_spared)) f_spared fd_spared) (F : FnP K "fewest_further" s_fewest_further f fd) : FnG P w K mg base CX0 13 f fd ["net", "holders", "giving"] (spP 3 (runP 4 m_fewest_further)) :=
  have nd := sc_fewest_further.nd
  def_pure F sc_fewest_further (fun cdv hv A outer s H E hg hr => PSs.nox ((pss_cons (ps_expr (pe_calC C_need_giving hg hr (by decide) (by rfl) (pa_cons (pv 0) (pa_cons (pv 1) (pa_cons (pv 2) pa_nil))))) (pss_one (ps_ret (pe_calC C_spared hg hr (by decide) (by rfl) (pa_cons (pv 0) (pa_cons (pv 1) (pa_cons (pv 2) (pa_cons (pe_callTy call_tupleF (by rfl) b_tuple boot_tuple (pa_cons (pe_lc (own := [("house", 3)]) (g := (gName 3)) (tt := tYes) rfl nd  (pi_any (pe_ix (ix_A (hu64 hr)) (pv 0) pe_int (fun _ _ => rfl))) (blkOk_by (N := N_fewest_further) (sc := defScope s_fewest_further) (by decide +kernel)) (fun _ _ _ _ _ => (pg_name (i := 3) nd rfl (by first | exact Or.inl rfl | exact Or.inr rfl))) (fun _ _ _ _ _ => pts_nil) (fun _ _ _ _ _ => (pe_callB call_lenA (by rfl) b_len boot_len (pa_cons (pv 1) pa_nil)))) pa_nil)) pa_nil)))))))))) (ss_fewest_further K)
theorem ok__without_room [Gd] {P : Program} {w : World} {K : PySem.W.Frag} {mg : Str → Option Value} {base : Heap} {f : Addr} {fd : FuncData} {f_greatest_set : Addr} {fd_greatest_set : FuncData} (C_greatest_set : Cal P w K mg base "greatest_set" 5 ["houses", "links", "stocks", "house"] (spP 4 (runP 7 m_greatest_set)) f_greatest_set fd_greatest_set) {f_free_links : Addr} {fd_free_links : FuncData} (C_free_links : Cal P w K mg base "free_links" 1 ["net", "giving"] (spP 2 (runP 5 m_free_links)) f_free_links fd_free_links) {f__stocks : Addr} {fd__stocks : FuncData} (C__stocks : Cal P w K mg base "_stocks" 2 ["net", "found", "numbers"] (spP 3 (runP 5 m__stocks)) f__stocks fd__stocks) (F : FnP K "_without_room" s__without_room f fd) : FnG P w K mg base CX0 6 f fd ["net", "found", "giving", "numbers", "house"] (spP 5 (runP 5 m__without_room)) :=
  have nd := sc__without_room.nd
  def_pure F sc__without_room (fun cdv hv A outer s H E hg hr => PSs.nox ((pss_one (ps_ret (pe_calC C_greatest_set hg hr (by decide) (by rfl) (pa_cons (pe_ix (ix_A (hu64 hr)) (pv 0) pe_int (fun _ _ => rfl)) (pa_cons (pe_calC C_free_links hg hr (by decide) (by rfl) (pa_cons (pv 0) (pa_cons (pv 2) pa_nil))) (pa_cons (pe_calC C__stocks hg hr (by decide) (by rfl) (pa_cons (pv 0) (pa_cons (pv 1) (pa_cons (pv 3) pa_nil)))) (pa_cons (pv 4) pa_nil))))))))) (ss__without_room K)
theorem ok_further_copies [Gd] {P : Program} {w : World} {K : PySem.W.Frag} {mg : Str → Option Value} {base : Heap} {f : Addr} {fd : FuncData} (b_enumerate : mg "enumerate" = none) (b_list : mg "list" = none) (b_sorted : mg "sorted" = none) (b_tuple : mg "tuple" = none) {f_comers : Addr} {fd_comers : FuncData} (C_comers : Cal P w K mg base "comers" 2 ["net", "holders", "giving"] (spP 3 (runP 5 m_comers)) f_comers fd_comers) {f_laid : Addr} {fd_laid : FuncData} (C_laid : Cal P w K mg base "laid" 9 ["net", "holders", "piece", "house"] (spP 4 (runP 5 m_laid)) f_laid fd_laid) {f_lacked_by : Addr} {fd_lacked_by : FuncData} (C_lacked_by : Cal P w K mg base "lacked_by" 1 ["found", "houses"] (spP 2 (runP 5 m_lacked_by)) f_lacked_by fd_lacked_by) {f_fewest_further : Addr} {fd_fewest_further : FuncData} (C_fewest_further : Cal P w K mg base "fewest_further" 13 ["net", "holders", "giving"] (spP 3 (runP 4 m_fewest_further)) f_fewest_further fd_fewest_further) {f__without_room : Addr} {fd__without_room : FuncData} (C__without_room : Cal P w K mg base "_without_room" 6 ["net", "found", "giving", "numbers", "house"] (spP 5 (runP 5 m__without_room)) f__without_room fd__without_room) (F : FnP K "further_copies" s_further_copies f fd) : FnG P w K mg base CX0 14 f fd ["net", "holders", "giving"] (spP 3 (runP 10 m_further_copies)) :=
  have nd := sc_further_copies.nd
  def_pure F sc_further_copies (fun cdv hv A outer s H E hg hr => PSs.nox ((pss_cons (ps_set (i := 3) nd rfl (Or.inl rfl) (pe_callTy call_list_of (by rfl) b_list boot_list (pa_cons (pe_calC C_fewest_further hg hr (by decide) (by rfl) (pa_cons (pv 0) (pa_cons (pv 1) (pa_cons (pv 2) pa_nil)))) pa_nil))) (pss_cons (ps_set (i := 4) nd rfl (Or.inl rfl) (pv 1)) (pss_cons (ps_set (i := 5) nd rfl (Or.inl rfl) (pe_lst pa_nil)) (pss_cons (ps_for PassesOwn.never rfl (pi_enA (by rfl) b_enumerate (pa_cons (pe_ix (ix_A (hu64 hr)) (pv 0) pe_int (fun _ _ => rfl)) pa_nil)) (pg_tup rfl (pgs_cons (pg_name (i := 6) nd rfl (Or.inl rfl)) (pgs_cons (pg_name (i := 7) nd rfl (Or.inl rfl)) pgs_nil))) (pss_one (ps_while PassesOwn.never (pt_cmpR (op_gtW (hu64 hr)) (pe_ix (ix_A (hu64 hr)) (pv 3) (pv 6) (fun _ _ => rfl)) pe_int (nomark _)) (pss_cons (ps_set (i := 8) nd rfl (Or.inl rfl) (pe_calC C_comers hg hr (by decide) (by rfl) (pa_cons (pv 0) (pa_cons (pv 4) (pa_cons (pv 2) pa_nil))))) (pss_cons (ps_set (i := 9) nd rfl (Or.inl rfl) (pe_ix (ix_A (hu64 hr)) (pe_calC C_lacked_by hg hr (by decide) (by rfl) (pa_cons (pv 8) (pa_cons (pe_calC C__without_room hg hr (by decide) (by rfl) (pa_cons (pv 0) (pa_cons (pv 8) (pa_cons (pv 2) (pa_cons (pv 3) (pa_cons (pv 7) pa_nil)))))) pa_nil))) pe_int (fun _ _ => rfl))) (pss_cons (ps_set (i := 4) nd rfl (Or.inl rfl) (pe_calC C_laid hg hr (by decide) (by rfl) (pa_cons (pv 0) (pa_cons (pv 4) (pa_cons (pv 9) (pa_cons (pv 7) pa_nil)))))) (pss_cons (ps_expr (pe_bm PySem.F.plainAttrs_list PySem.F.slot_list_append PySem.F.type_list_append mt_append (pv 5) (pa_cons (pe_tupF (pa_cons (pv 9) (pa_cons (pv 7) pa_nil))) pa_nil))) (pss_one (ps_asg (pe_op op_sub (pe_ix (ix_A (hu64 hr)) (pv 3) (pv 6) (fun _ _ => rfl)) pe_int) (pg_sub (pv 3) (pv 6) set_list)))))))))) (pss_one (ps_ret (pe_callTy call_tupleF (by rfl) b_tuple boot_tuple (pa_cons (pe_callB (cr_sortX rfl (hu64 hr)) (by rfl) b_sorted boot_sorted (pa_cons (pv 5) pa_nil)) pa_nil)))))))))) (ss_further_copies K)
theorem ok_apart_sets [Gd] {P : Program} {w : World} {K : PySem.W.Frag} {mg : Str → Option Value} {base : Heap} {f : Addr} {fd : FuncData} (b_set : mg "set" = none) (b_sorted : mg "sorted" = none) (b_tuple : mg "tuple" = none) (b_zip : mg "zip" = none) {f_comers : Addr} {fd_comers : FuncData} (C_comers : Cal P w K mg base "comers" 2 ["net", "holders", "giving"] (spP 3 (runP 5 m_comers)) f_comers fd_comers) {f_fewest_further : Addr} {fd_fewest_further : FuncData} (C_fewest_further : Cal P w K mg base "fewest_further" 13 ["net", "holders", "giving"] (spP 3 (runP 4 m_fewest_further)) f_fewest_further fd_fewest_further) {f__without_room : Addr} {fd__without_room : FuncData} (C__without_room : Cal P w K mg base "_without_room" 6 ["net", "found", "giving", "numbers", "house"] (spP 5 (runP 5 m__without_room)) f__without_room fd__without_room) (F : FnP K "apart_sets" s_apart_sets f fd) : FnG P w K mg base CX0 14 f fd ["net", "holders", "giving"] (spP 3 (runP 7 m_apart_sets)) :=
  have nd := sc_apart_sets.nd
  def_pure F sc_apart_sets (fun cdv hv A outer s H E hg hr => PSs.nox ((pss_cons (ps_set (i := 3) nd rfl (Or.inr rfl) (pe_calC C_fewest_further hg hr (by decide) (by rfl) (pa_cons (pv 0) (pa_cons (pv 1) (pa_cons (pv 2) pa_nil))))) (pss_cons (ps_set (i := 4) nd rfl (Or.inr rfl) (pe_calC C_comers hg hr (by decide) (by rfl) (pa_cons (pv 0) (pa_cons (pv 1) (pa_cons (pv 2) pa_nil))))) (pss_one (ps_ret (pe_callTy call_tupleF (by rfl) b_tuple boot_tuple (pa_cons (pe_tSS (pe_callB (cr_sortG rfl (hu64 hr)) (by rfl) b_sorted boot_sorted (pa_cons (pe_callTy (cr_setG rfl (hu64 hr)) (by rfl) b_set boot_set (pa_cons (pe_lc (own := [("house", 5), ("number", 6)]) (g := (gTup K 2 (gCons (gName 5) (gCons (gName 6) gNil)))) (tt := (tTest (tOp (rGtW K) (tVar 6) (tC (.int 0))))) rfl nd  (pi_zipX (by rfl) b_zip (pa_cons (pe_ix (ix_A (hu64 hr)) (pv 0) pe_int (fun _ _ => rfl)) (pa_cons (pv 3) pa_nil))) (blkOk_by (N := N_apart_sets) (sc := defScope s_apart_sets) (by decide +kernel)) (fun _ _ _ _ _ => (pg_tup rfl (pgs_cons (pg_name (i := 5) nd rfl (by first | exact Or.inl rfl | exact Or.inr rfl)) (pgs_cons (pg_name (i := 6) nd rfl (by first | exact Or.inl rfl | exact Or.inr rfl)) pgs_nil)))) (fun _ _ _ _ _ => (pts_one (pt_cmpR (op_gtW (hu64 hr)) (pv 6) pe_int (nomark _)))) (fun _ _ _ _ _ => (pe_calC C__without_room hg hr (by decide) (by rfl) (pa_cons (pv 0) (pa_cons (pv 4) (pa_cons (pv 2) (pa_cons (pv 3) (pa_cons (pv 5) pa_nil)))))))) pa_nil)) pa_nil))) pa_nil)))))))) (ss_apart_sets K)
end
end H52

namespace H52
noncomputable section
open PySem PySem.Spec PyProof.Rows L2 RZ AP
variable [Tbls]
theorem ok__law_feed {P : Program} {w : World} {K : PySem.W.Frag} {mg : Str → Option Value} {base : Heap} {f : Addr} {fd : FuncData} (b_int : mg "int" = none) (F : FnP K "_law_feed" s__law_feed f fd) : FnG P w K mg base CX0 1 f fd ["_law_script"] (spFeed K) :=
  have nd := sc__law_feed.nd
  def_feed0 F sc__law_feed rfl fun cdv hv A outer s H E hg hr => PSs.nox (pss_one (ps_ret (pe_disp (pps_cons pe_str (pe_lc (own := [("_law_cell", 1)]) (g := gName 1) (tt := tYes) rfl nd (pi_list (pe_slice sl_list (pv 0) po_none (po_some pe_int))) (blkOk_by (N := N__law_feed) (sc := defScope s__law_feed) (by decide +kernel)) (fun _ _ _ _ _ => pg_name (i := 1) nd rfl (Or.inl rfl)) (fun _ _ _ _ _ => pts_nil) (fun _ _ _ _ _ => pe_callTy call_int1 (by rfl) b_int boot_int (pa_cons (pv 1) pa_nil))) (pps_cons pe_str pe_int (pps_cons pe_str pe_int (pps_cons pe_str pe_int pps_nil)))) rfl rfl (by simp) (by decide))))
theorem ok__law_draw {P : Program} {w : World} {K : PySem.W.Frag} {mg : Str → Option Value} {base : Heap} {f : Addr} {fd : FuncData} (b_int : mg "int" = none) (b_len : mg "len" = none) (F : FnP K "_law_draw" s__law_draw f fd) : FnG P w K mg base CX0 1 f fd ["_law_feed_here", "_law_many_here"] (spF 2 (runF 7 m__law_draw)) :=
  have nd := sc__law_draw.nd
  def_feed F sc__law_draw (fun cdv hv A outer s H E hg hr => PSs.nox ((pss_cons (ps_dput (hu1 hr) (pv 0) pe_str (pe_op op_addU (pe_ix (ix_A (hu64 hr)) (pv 0) pe_str (fun _ _ => rfl)) pe_int) rfl) (pss_cons (ps_if (pt_cmpR op_gtU (pe_ix (ix_A (hu64 hr)) (pv 0) pe_str (fun _ _ => rfl)) pe_int (nomark _)) (pss_cons (ps_set (i := 4) nd rfl (Or.inl rfl) (pe_op op_mod (pe_callTy call_int1 (by rfl) b_int boot_int (pa_cons (pe_ix (ix_A (hu64 hr)) (pv 0) pe_str (fun _ _ => rfl)) pa_nil)) (pv 1))) (pss_cons (ps_dput (hu1 hr) (pv 0) pe_str (pe_op op_fdiv (pe_ix (ix_A (hu64 hr)) (pv 0) pe_str (fun _ _ => rfl)) (pv 1)) rfl) (pss_one (ps_ret (pv 4))))) pss_nil) (pss_cons (ps_par (i := 5) (j := 6) rfl nd rfl rfl (by decide) rfl rfl (pa_cons (pe_ix (ix_A (hu64 hr)) (pv 0) pe_str (fun _ _ => rfl)) (pa_cons (pe_ix (ix_A (hu64 hr)) (pv 0) pe_str (fun _ _ => rfl)) pa_nil)) (by rfl)) (pss_cons (ps_dput (hu1 hr) (pv 0) pe_str (pe_op op_addU (pv 5) pe_int) rfl) (pss_cons (ps_set (i := 2) nd rfl (Or.inl rfl) (pe_ifExp (pt_cmpR (op_neU (hu64 hr)) (pv 6) (pe_lst pa_nil) (nomark _)) (pe_ix (ix_A (hu64 hr)) (pv 6) (pe_op op_mod (pe_callTy call_int1 (by rfl) b_int boot_int (pa_cons (pv 5) pa_nil)) (pe_callB call_lenA (by rfl) b_len boot_len (pa_cons (pv 6) pa_nil))) (fun _ _ => rfl)) pe_int)) (pss_cons (ps_if (pw_and (pt_cmpR op_geU (pv 2) (pe_op op_pow pe_int pe_int) (nomark _)) (pw_and1 (pt_cmpR op_ltU (pv 5) (pe_callB call_lenA (by rfl) b_len boot_len (pa_cons (pv 6) pa_nil)) (nomark _)))).pt (pss_cons (ps_dput (hu1 hr) (pv 0) pe_str (pe_op op_fdiv (pv 2) (pv 1)) rfl) (pss_one (ps_ret (pe_op op_mod (pe_callTy call_int1 (by rfl) b_int boot_int (pa_cons (pv 2) pa_nil)) (pv 1))))) pss_nil) (pss_cons (ps_set (i := 3) nd rfl (Or.inl rfl) (pe_op op_mod (pe_callTy call_int1 (by rfl) b_int boot_int (pa_cons (pe_op op_addU (pe_op op_addU (pe_op op_mod (pe_callTy call_int1 (by rfl) b_int boot_int (pa_cons (pv 2) pa_nil)) pe_int) (pe_op op_mul pe_int (pe_ix (ix_A (hu64 hr)) (pv 0) pe_str (fun _ _ => rfl)))) pe_int) pa_nil)) pe_int)) (pss_cons (ps_set (i := 3) nd rfl (Or.inl rfl) (pe_op op_mod (pe_callTy call_int1 (by rfl) b_int boot_int (pa_cons (pe_op op_addU (pe_op op_addU (pe_op op_mul (pv 3) (pv 3)) (pe_op op_mul pe_int (pe_ix (ix_A (hu64 hr)) (pv 0) pe_str (fun _ _ => rfl)))) pe_int) pa_nil)) pe_int)) (pss_one (ps_ret (pe_op op_mod (pe_callTy call_int1 (by rfl) b_int boot_int (pa_cons (pe_op op_fdiv (pe_op op_mod (pe_callTy call_int1 (by rfl) b_int boot_int (pa_cons (pe_op op_addU (pe_op op_mul (pv 3) (pv 3)) (pe_op op_mul pe_int (pv 3))) pa_nil)) pe_int) pe_int) pa_nil)) (pv 1)))))))))))))) (ss__law_draw K)
theorem ok__law_any {P : Program} {w : World} {K : PySem.W.Frag} {mg : Str → Option Value} {base : Heap} {f : Addr} {fd : FuncData} (b_len : mg "len" = none) {f__law_draw : Addr} {fd__law_draw : FuncData} (C__law_draw : Cal P w K mg base "_law_draw" 1 ["_law_feed_here", "_law_many_here"] (spF 2 (runF 7 m__law_draw)) f__law_draw fd__law_draw) (F : FnP K "_law_any" s__law_any f fd) : FnG P w K mg base CX0 2 f fd ["_law_feed_here", "_law_some"] (spF 2 (runF 2 m__law_any)) :=
  have nd := sc__law_any.nd
  def_feed F sc__law_any (fun cdv hv A outer s H E hg hr => PSs.nox ((pss_one (ps_ret (pe_ix (ix_A (hu64 hr)) (pv 1) (pe_calC C__law_draw hg hr (by decide) (by rfl) (pa_cons (pv 0) (pa_cons (pe_callB call_lenA (by rfl) b_len boot_len (pa_cons (pv 1) pa_nil)) pa_nil))) (fun _ _ => rfl)))))) (ss__law_any K)
theorem ok__law_names {P : Program} {w : World} {K : PySem.W.Frag} {mg : Str → Option Value} {base : Heap} {f : Addr} {fd : FuncData} (b_sorted : mg "sorted" = none) {f__law_any : Addr} {fd__law_any : FuncData} (C__law_any : Cal P w K mg base "_law_any" 2 ["_law_feed_here", "_law_some"] (spF 2 (runF 2 m__law_any)) f__law_any fd__law_any) (F : FnP K "_law_names" s__law_names f fd) : FnG P w K mg base CX0 3 f fd ["_law_feed_here"] (spF 1 (runF 2 m__law_names)) :=
  have nd := sc__law_names.nd
  def_feed F sc__law_names (fun cdv hv A outer s H E hg hr => PSs.nox ((pss_cons (ps_set (i := 1) nd rfl (Or.inl rfl) (pe_lst (pa_cons (pe_lst (pa_cons pe_str (pa_cons pe_str (pa_cons pe_str (pa_cons pe_str (pa_cons pe_str (pa_cons pe_str pa_nil))))))) (pa_cons (pe_lst (pa_cons pe_str (pa_cons pe_str (pa_cons pe_str (pa_cons pe_str (pa_cons pe_str (pa_cons pe_str pa_nil))))))) pa_nil)))) (pss_cons (ps_set (i := 1) nd rfl (Or.inl rfl) (pe_op op_addU (pv 1) (pe_lst (pa_cons (pe_lst (pa_cons pe_str (pa_cons pe_str (pa_cons pe_str (pa_cons pe_str (pa_cons pe_str (pa_cons pe_str pa_nil))))))) (pa_cons (pe_lst (pa_cons pe_str (pa_cons pe_str (pa_cons pe_str (pa_cons pe_str (pa_cons pe_str (pa_cons pe_str pa_nil))))))) pa_nil))))) (pss_cons (ps_set (i := 1) nd rfl (Or.inl rfl) (pe_op op_addU (pv 1) (pe_lst (pa_cons (pe_lst (pa_cons pe_str (pa_cons pe_str (pa_cons pe_str (pa_cons pe_str (pa_cons pe_str (pa_cons pe_str pa_nil))))))) (pa_cons (pe_lst (pa_cons pe_str (pa_cons pe_str (pa_cons pe_str (pa_cons pe_str (pa_cons pe_str (pa_cons pe_str pa_nil))))))) pa_nil))))) (pss_one (ps_ret (pe_callB (cr_sortX rfl (hu64 hr)) (by rfl) b_sorted boot_sorted (pa_cons (pe_calC C__law_any hg hr (by decide) (by rfl) (pa_cons (pv 0) (pa_cons (pv 1) pa_nil))) pa_nil))))))))) (ss__law_names K)
theorem ok__law_set {P : Program} {w : World} {K : PySem.W.Frag} {mg : Str → Option Value} {base : Heap} {f : Addr} {fd : FuncData} (b_tuple : mg "tuple" = none) (F : FnP K "_law_set" s__law_set f fd) : FnG P w K mg base CX0 1 f fd ["_law_names_here", "_law_letters"] (spP 2 (runP 3 m__law_set)) :=
  have nd := sc__law_set.nd
  def_pure F sc__law_set (fun cdv hv A outer s H E hg hr => PSs.nox ((pss_one (ps_ret (pe_callTy call_tupleF (by rfl) b_tuple boot_tuple (pa_cons (pe_lc (own := [("_law_letter", 2)]) (g := (gName 2)) (tt := tYes) rfl nd  (pi_any (pv 1)) (blkOk_by (N := N__law_set) (sc := defScope s__law_set) (by decide +kernel)) (fun _ _ _ _ _ => (pg_name (i := 2) nd rfl (by first | exact Or.inl rfl | exact Or.inr rfl))) (fun _ _ _ _ _ => pts_nil) (fun _ _ _ _ _ => (pe_ix (ix_A (hu64 hr)) (pv 0) (pe_sidx pe_str (pv 2)) (fun _ _ => rfl)))) pa_nil)))))) (ss__law_set K)
theorem ok__law_scene {P : Program} {w : World} {K : PySem.W.Frag} {mg : Str → Option Value} {base : Heap} {f : Addr} {fd : FuncData} (b_tuple : mg "tuple" = none) {f__law_set : Addr} {fd__law_set : FuncData} (C__law_set : Cal P w K mg base "_law_set" 1 ["_law_names_here", "_law_letters"] (spP 2 (runP 3 m__law_set)) f__law_set fd__law_set) (F : FnP K "_law_scene" s__law_scene f fd) : FnG P w K mg base CX0 2 f fd ["_law_names_here", "_law_many_here", "_law_lanes", "_law_first"] (spP 4 (runP 7 m__law_scene)) :=
  have nd := sc__law_scene.nd
  def_pure F sc__law_scene (fun cdv hv A outer s H E hg hr => PSs.nox ((pss_cons (ps_setLc (i := 4) (own := [("_law_word", 6)]) (g := (gName 6)) (tt := tYes) rfl nd rfl rfl (sw_true rfl rfl rfl (by decide +kernel)) (pi_any (pe_wordsR (pv 2))) (blkOk_by (N := N__law_scene) (sc := defScope s__law_scene) (by decide +kernel)) (fun _ _ _ _ _ => (pg_name (i := 6) nd rfl (by first | exact Or.inl rfl | exact Or.inr rfl))) (fun _ _ _ _ _ => pts_nil) (fun _ _ _ _ _ => (pe_calC C__law_set hg hr (by decide) (by rfl) (pa_cons (pv 0) (pa_cons (pv 6) pa_nil))))) (pss_cons (ps_setLc (i := 5) (own := [("_law_word", 6)]) (g := (gName 6)) (tt := tYes) rfl nd rfl rfl (sw_true rfl rfl rfl (by decide +kernel)) (pi_any (pe_wordsR (pv 3))) (blkOk_by (N := N__law_scene) (sc := defScope s__law_scene) (by decide +kernel)) (fun _ _ _ _ _ => (pg_name (i := 6) nd rfl (by first | exact Or.inl rfl | exact Or.inr rfl))) (fun _ _ _ _ _ => pts_nil) (fun _ _ _ _ _ => (pe_calC C__law_set hg hr (by decide) (by rfl) (pa_cons (pv 0) (pa_cons (pv 6) pa_nil))))) (pss_one (ps_ret (pe_tupF (pa_cons (pe_tupF (pa_cons (pe_callTy call_tupleF (by rfl) b_tuple boot_tuple (pa_cons (pe_slice sl_U (pv 0) po_none (po_some (pv 1))) pa_nil)) (pa_cons (pe_callTy call_tupleF (by rfl) b_tuple boot_tuple (pa_cons (pv 4) pa_nil)) pa_nil))) (pa_cons (pe_callTy call_tupleF (by rfl) b_tuple boot_tuple (pa_cons (pv 5) pa_nil)) pa_nil))))))))) (ss__law_scene K)
end
end H52

namespace H52
noncomputable section
open PySem PySem.Spec PyProof.Rows L2 RZ AP
variable [Tbls]
theorem ok__law_few {P : Program} {w : World} {K : PySem.W.Frag} {mg : Str → Option Value} {base : Heap} {f : Addr} {fd : FuncData} (F : FnP K "_law_few" s__law_few f fd) : FnG P w K mg base CX0 1 f fd [] (spP 0 (runP 3 m__law_few)) :=
  have nd := sc__law_few.nd
  def_pure F sc__law_few (fun cdv hv A outer s H E hg hr => PSs.nox ((pss_cons (ps_par (i := 1) (j := 2) rfl nd rfl rfl (by decide) rfl rfl (pa_cons (pe_un un_neg pe_int) (pa_cons (pe_lst (pa_cons pe_str (pa_cons pe_str (pa_cons pe_str (pa_cons pe_str pa_nil))))) pa_nil)) (by rfl)) (pss_cons (ps_set (i := 0) nd rfl (Or.inl rfl) (pe_lst (pa_cons (pe_tupF (pa_cons pe_int (pa_cons pe_str (pa_cons pe_str (pa_cons (pe_tupF (pa_cons (pv 1) (pa_cons (pv 1) (pa_cons (pv 1) (pa_cons (pv 1) pa_nil))))) (pa_cons (pe_lst (pa_cons pe_str (pa_cons pe_str pa_nil))) (pa_cons (pv 2) (pa_cons (pe_lst (pa_cons pe_str pa_nil)) pa_nil)))))))) pa_nil))) (pss_cons (ps_expr (pe_bm PySem.F.plainAttrs_list PySem.F.slot_list_append PySem.F.type_list_append mt_append (pv 0) (pa_cons (pe_tupF (pa_cons pe_int (pa_cons pe_str (pa_cons pe_str (pa_cons (pe_tupF (pa_cons pe_int (pa_cons pe_int (pa_cons (pv 1) (pa_cons (pv 1) pa_nil))))) (pa_cons (pe_lst (pa_cons pe_str (pa_cons pe_str pa_nil))) (pa_cons (pe_lst (pa_cons pe_str (pa_cons pe_str pa_nil))) (pa_cons (pe_lst (pa_cons pe_str pa_nil)) pa_nil)))))))) pa_nil))) (pss_cons (ps_expr (pe_bm PySem.F.plainAttrs_list PySem.F.slot_list_append PySem.F.type_list_append mt_append (pv 0) (pa_cons (pe_tupF (pa_cons pe_int (pa_cons pe_str (pa_cons pe_str (pa_cons (pe_tupF (pa_cons pe_int (pa_cons (pv 1) (pa_cons (pv 1) (pa_cons (pv 1) pa_nil))))) (pa_cons (pe_lst (pa_cons pe_str pa_nil)) (pa_cons (pe_lst (pa_cons pe_str pa_nil)) (pa_cons (pe_lst (pa_cons pe_str pa_nil)) pa_nil)))))))) pa_nil))) (pss_cons (ps_expr (pe_bm PySem.F.plainAttrs_list PySem.F.slot_list_append PySem.F.type_list_append mt_append (pv 0) (pa_cons (pe_tupF (pa_cons pe_int (pa_cons pe_str (pa_cons pe_str (pa_cons (pe_tupF (pa_cons pe_int (pa_cons pe_int (pa_cons pe_int (pa_cons pe_int pa_nil))))) (pa_cons (pe_lst (pa_cons pe_str pa_nil)) (pa_cons (pe_lst (pa_cons pe_str pa_nil)) (pa_cons (pe_lst (pa_cons pe_str pa_nil)) pa_nil)))))))) pa_nil))) (pss_cons (ps_expr (pe_bm PySem.F.plainAttrs_list PySem.F.slot_list_append PySem.F.type_list_append mt_append (pv 0) (pa_cons (pe_tupF (pa_cons pe_int (pa_cons pe_str (pa_cons pe_str (pa_cons (pe_tupF (pa_cons (pv 1) (pa_cons (pv 1) (pa_cons (pv 1) (pa_cons (pv 1) pa_nil))))) (pa_cons (pe_lst (pa_cons pe_str (pa_cons pe_str pa_nil))) (pa_cons (pv 2) (pa_cons (pe_lst (pa_cons pe_str pa_nil)) pa_nil)))))))) pa_nil))) (pss_cons (ps_expr (pe_bm PySem.F.plainAttrs_list PySem.F.slot_list_append PySem.F.type_list_append mt_append (pv 0) (pa_cons (pe_tupF (pa_cons pe_int (pa_cons pe_str (pa_cons pe_str (pa_cons (pe_tupF pa_nil) (pa_cons (pe_lst (pa_cons pe_str pa_nil)) (pa_cons (pe_lst (pa_cons pe_str pa_nil)) (pa_cons (pe_lst (pa_cons pe_str pa_nil)) pa_nil)))))))) pa_nil))) (pss_cons (ps_expr (pe_bm PySem.F.plainAttrs_list PySem.F.slot_list_append PySem.F.type_list_append mt_append (pv 0) (pa_cons (pe_tupF (pa_cons pe_int (pa_cons pe_str (pa_cons pe_str (pa_cons (pe_tupF (pa_cons (pv 1) pa_nil)) (pa_cons (pe_lst (pa_cons pe_str pa_nil)) (pa_cons (pe_lst (pa_cons pe_str pa_nil)) (pa_cons (pe_lst (pa_cons pe_str pa_nil)) pa_nil)))))))) pa_nil))) (pss_one (ps_ret (pv 0))))))))))))) (ss__law_few K)
theorem ok__law_many {P : Program} {w : World} {K : PySem.W.Frag} {mg : Str → Option Value} {base : Heap} {f : Addr} {fd : FuncData} (F : FnP K "_law_many" s__law_many f fd) : FnG P w K mg base CX0 1 f fd [] (spP 0 (runP 3 m__law_many)) :=
  have nd := sc__law_many.nd
  def_pure F sc__law_many (fun cdv hv A outer s H E hg hr => PSs.nox ((pss_cons (ps_set (i := 0) nd rfl (Or.inl rfl) (pe_un un_neg pe_int)) (pss_cons (ps_set (i := 1) nd rfl (Or.inl rfl) (pe_lst (pa_cons pe_str (pa_cons pe_str (pa_cons pe_str (pa_cons pe_str pa_nil)))))) (pss_cons (ps_set (i := 2) nd rfl (Or.inl rfl) (pe_lst (pa_cons (pe_tupF (pa_cons pe_int (pa_cons pe_str (pa_cons pe_str (pa_cons (pe_tupF (pa_cons (pv 0) (pa_cons (pv 0) (pa_cons (pv 0) (pa_cons (pv 0) pa_nil))))) (pa_cons (pe_lst (pa_cons pe_str (pa_cons pe_str (pa_cons pe_str (pa_cons pe_str pa_nil))))) (pa_cons (pv 1) (pa_cons (pe_lst (pa_cons pe_str pa_nil)) pa_nil)))))))) pa_nil))) (pss_cons (ps_set (i := 1) nd rfl (Or.inl rfl) (pe_lst (pa_cons pe_str (pa_cons pe_str pa_nil)))) (pss_cons (ps_expr (pe_bm PySem.F.plainAttrs_list PySem.F.slot_list_append PySem.F.type_list_append mt_append (pv 2) (pa_cons (pe_tupF (pa_cons pe_int (pa_cons pe_str (pa_cons pe_str (pa_cons (pe_tupF (pa_cons pe_int (pa_cons (pv 0) (pa_cons (pv 0) (pa_cons (pv 0) pa_nil))))) (pa_cons (pe_lst (pa_cons pe_str (pa_cons pe_str pa_nil))) (pa_cons (pv 1) (pa_cons (pe_lst (pa_cons pe_str (pa_cons pe_str pa_nil))) pa_nil)))))))) pa_nil))) (pss_cons (ps_set (i := 1) nd rfl (Or.inl rfl) (pe_lst (pa_cons pe_str (pa_cons pe_str (pa_cons pe_str (pa_cons pe_str (pa_cons pe_str (pa_cons pe_str pa_nil)))))))) (pss_cons (ps_expr (pe_bm PySem.F.plainAttrs_list PySem.F.slot_list_append PySem.F.type_list_append mt_append (pv 2) (pa_cons (pe_tupF (pa_cons pe_int (pa_cons pe_str (pa_cons pe_str (pa_cons (pe_tupF (pa_cons (pv 0) (pa_cons (pv 0) (pa_cons (pv 0) pa_nil)))) (pa_cons (pe_lst (pa_cons pe_str pa_nil)) (pa_cons (pv 1) (pa_cons (pe_lst (pa_cons pe_str pa_nil)) pa_nil)))))))) pa_nil))) (pss_cons (ps_set (i := 1) nd rfl (Or.inl rfl) (pe_lst (pa_cons pe_str (pa_cons pe_str (pa_cons pe_str (pa_cons pe_str (pa_cons pe_str (pa_cons pe_str (pa_cons pe_str (pa_cons pe_str pa_nil)))))))))) (pss_cons (ps_expr (pe_bm PySem.F.plainAttrs_list PySem.F.slot_list_append PySem.F.type_list_append mt_append (pv 2) (pa_cons (pe_tupF (pa_cons pe_int (pa_cons pe_str (pa_cons pe_str (pa_cons (pe_tupF (pa_cons (pv 0) (pa_cons (pv 0) (pa_cons (pv 0) (pa_cons (pv 0) (pa_cons (pv 0) pa_nil)))))) (pa_cons (pe_lst (pa_cons pe_str (pa_cons pe_str pa_nil))) (pa_cons (pv 1) (pa_cons (pe_lst (pa_cons pe_str pa_nil)) pa_nil)))))))) pa_nil))) (pss_cons (ps_set (i := 1) nd rfl (Or.inl rfl) (pe_lst (pa_cons pe_str (pa_cons pe_str (pa_cons pe_str (pa_cons pe_str (pa_cons pe_str (pa_cons pe_str pa_nil)))))))) (pss_cons (ps_set (i := 1) nd rfl (Or.inl rfl) (pe_op op_addU (pv 1) (pe_lst (pa_cons pe_str (pa_cons pe_str (pa_cons pe_str pa_nil)))))) (pss_cons (ps_expr (pe_bm PySem.F.plainAttrs_list PySem.F.slot_list_append PySem.F.type_list_append mt_append (pv 2) (pa_cons (pe_tupF (pa_cons pe_int (pa_cons pe_str (pa_cons pe_str (pa_cons (pe_tupF (pa_cons (pv 0) (pa_cons (pv 0) (pa_cons (pv 0) (pa_cons (pv 0) (pa_cons (pv 0) pa_nil)))))) (pa_cons (pe_lst (pa_cons pe_str pa_nil)) (pa_cons (pv 1) (pa_cons (pe_lst (pa_cons pe_str pa_nil)) pa_nil)))))))) pa_nil))) (pss_cons (ps_set (i := 1) nd rfl (Or.inl rfl) (pe_lst (pa_cons pe_str (pa_cons pe_str (pa_cons pe_str (pa_cons pe_str (pa_cons pe_str pa_nil))))))) (pss_cons (ps_expr (pe_bm PySem.F.plainAttrs_list PySem.F.slot_list_append PySem.F.type_list_append mt_append (pv 2) (pa_cons (pe_tupF (pa_cons pe_int (pa_cons pe_str (pa_cons pe_str (pa_cons (pe_tupF (pa_cons pe_int (pa_cons (pv 0) (pa_cons (pv 0) (pa_cons (pv 0) (pa_cons (pv 0) pa_nil)))))) (pa_cons (pe_lst (pa_cons pe_str pa_nil)) (pa_cons (pv 1) (pa_cons (pe_lst (pa_cons pe_str pa_nil)) pa_nil)))))))) pa_nil))) (pss_one (ps_ret (pv 2))))))))))))))))))) (ss__law_many K)
theorem ok__law_dues {P : Program} {w : World} {K : PySem.W.Frag} {mg : Str → Option Value} {base : Heap} {f : Addr} {fd : FuncData} (b_int : mg "int" = none) (b_repr : mg "repr" = none) (b_tuple : mg "tuple" = none) {f__law_set : Addr} {fd__law_set : FuncData} (C__law_set : Cal P w K mg base "_law_set" 1 ["_law_names_here", "_law_letters"] (spP 2 (runP 3 m__law_set)) f__law_set fd__law_set) (F : FnP K "_law_dues" s__law_dues f fd) : FnG P w K mg base CX0 2 f fd ["_law_names_here", "_law_digits", "_law_copies", "_law_parts"] (spP 4 (runP 11 m__law_dues)) :=
  have nd := sc__law_dues.nd
  def_pure F sc__law_dues (fun cdv hv A outer s H E hg hr => PSs.nox ((pss_cons (ps_setLc (i := 4) (own := [("_law_word", 6)]) (g := (gName 6)) (tt := tYes) rfl nd rfl rfl (sw_true rfl rfl rfl (by decide +kernel)) (pi_any (pv 1)) (blkOk_by (N := N__law_dues) (sc := defScope s__law_dues) (by decide +kernel)) (fun _ _ _ _ _ => (pg_name (i := 6) nd rfl (by first | exact Or.inl rfl | exact Or.inr rfl))) (fun _ _ _ _ _ => pts_nil) (fun _ _ _ _ _ => (pe_callB (call_repr (hg rfl) (hu64 hr)) (by rfl) b_repr boot_repr (pa_cons (pe_callTy call_tupleF (by rfl) b_tuple boot_tuple (pa_cons (pe_lc (own := [("_law_letter", 8)]) (g := (gName 8)) (tt := tYes) rfl nd  (pi_any (pv 6)) (blkOk_by (N := N__law_dues) (by kernel_rfl)) (fun _ _ _ _ _ => (pg_name (i := 8) nd rfl (by first | exact Or.inl rfl | exact Or.inr rfl))) (fun _ _ _ _ _ => pts_nil) (fun _ _ _ _ _ => (pe_callTy call_intU (by rfl) b_int boot_int (pa_cons (pv 8) pa_nil)))) pa_nil)) pa_nil)))) (pss_cons (ps_set (i := 5) nd rfl (Or.inl rfl) (pe_lst pa_nil)) (pss_cons (ps_for PassesOwn.never rfl (pi_any (pv 2)) (pg_name (i := 6) nd rfl (Or.inl rfl)) (pss_one (ps_expr (pe_bm PySem.F.plainAttrs_list PySem.F.slot_list_append PySem.F.type_list_append mt_append (pv 5) (pa_cons (pe_callB (call_repr (hg rfl) (hu64 hr)) (by rfl) b_repr boot_repr (pa_cons (pe_callTy call_tupleF (by rfl) b_tuple boot_tuple (pa_cons (pe_lc (own := [("_law_pair", 10)]) (g := (gName 10)) (tt := tYes) rfl nd  (pi_any (pe_wordsR (pv 6))) (blkOk_by (N := N__law_dues) (sc := defScope s__law_dues) (by decide +kernel)) (fun _ _ _ _ _ => (pg_name (i := 10) nd rfl (by first | exact Or.inl rfl | exact Or.inr rfl))) (fun _ _ _ _ _ => pts_nil) (fun _ _ _ _ _ => (pe_tupF (pa_cons (pe_callTy call_intU (by rfl) b_int boot_int (pa_cons (pe_ix (ix_A (hu64 hr)) (pv 10) pe_int (fun _ _ => rfl)) pa_nil)) (pa_cons (pe_ix (ix_A (hu64 hr)) (pe_calC C__law_set hg hr (by decide) (by rfl) (pa_cons (pv 0) (pa_cons (pe_ix (ix_A (hu64 hr)) (pv 10) pe_int (fun _ _ => rfl)) pa_nil))) pe_int (fun _ _ => rfl)) pa_nil))))) pa_nil)) pa_nil)) pa_nil))))) (pss_cons (ps_setLc (i := 7) (own := [("_law_word", 6)]) (g := (gName 6)) (tt := tYes) rfl nd rfl rfl (sw_true rfl rfl rfl (by decide +kernel)) (pi_any (pv 3)) (blkOk_by (N := N__law_dues) (sc := defScope s__law_dues) (by decide +kernel)) (fun _ _ _ _ _ => (pg_name (i := 6) nd rfl (by first | exact Or.inl rfl | exact Or.inr rfl))) (fun _ _ _ _ _ => pts_nil) (fun _ _ _ _ _ => (pe_callB (call_repr (hg rfl) (hu64 hr)) (by rfl) b_repr boot_repr (pa_cons (pe_callTy call_tupleF (by rfl) b_tuple boot_tuple (pa_cons (pe_lc (own := [("_law_part", 9)]) (g := (gName 9)) (tt := tYes) rfl nd  (pi_any (pe_wordsR (pv 6))) (blkOk_by (N := N__law_dues) (by kernel_rfl)) (fun _ _ _ _ _ => (pg_name (i := 9) nd rfl (by first | exact Or.inl rfl | exact Or.inr rfl))) (fun _ _ _ _ _ => pts_nil) (fun _ _ _ _ _ => (pe_calC C__law_set hg hr (by decide) (by rfl) (pa_cons (pv 0) (pa_cons (pv 9) pa_nil))))) pa_nil)) pa_nil)))) (pss_one (ps_ret (pe_tupF (pa_cons (pv 4) (pa_cons (pv 5) (pa_cons (pv 7) pa_nil)))))))))))) (ss__law_dues K)
end
end H52

namespace H52
noncomputable section
open PySem PySem.Spec PyProof.Rows L2 RZ AP
variable [Tbls]
theorem ok_law {P : Program} {w : World} {K : PySem.W.Frag} {mg : Str → Option Value} {base : Heap} {f : Addr} {fd : FuncData} (b_repr : mg "repr" = none) {f_fewest_further : Addr} {fd_fewest_further : FuncData} (C_fewest_further : Cal P w K mg base "fewest_further" 13 ["net", "holders", "giving"] (spP 3 (runP 4 m_fewest_further)) f_fewest_further fd_fewest_further) {f_further_copies : Addr} {fd_further_copies : FuncData} (C_further_copies : Cal P w K mg base "further_copies" 14 ["net", "holders", "giving"] (spP 3 (runP 10 m_further_copies)) f_further_copies fd_further_copies) {f_apart_sets : Addr} {fd_apart_sets : FuncData} (C_apart_sets : Cal P w K mg base "apart_sets" 14 ["net", "holders", "giving"] (spP 3 (runP 7 m_apart_sets)) f_apart_sets fd_apart_sets) {f__law_feed : Addr} {fd__law_feed : FuncData} (C__law_feed : Cal P w K mg base "_law_feed" 1 ["_law_script"] (spFeed K) f__law_feed fd__law_feed) {f__law_names : Addr} {fd__law_names : FuncData} (C__law_names : Cal P w K mg base "_law_names" 3 ["_law_feed_here"] (spF 1 (runF 2 m__law_names)) f__law_names fd__law_names) {f__law_scene : Addr} {fd__law_scene : FuncData} (C__law_scene : Cal P w K mg base "_law_scene" 2 ["_law_names_here", "_law_many_here", "_law_lanes", "_law_first"] (spP 4 (runP 7 m__law_scene)) f__law_scene fd__law_scene) {f__law_few : Addr} {fd__law_few : FuncData} (C__law_few : Cal P w K mg base "_law_few" 1 [] (spP 0 (runP 3 m__law_few)) f__law_few fd__law_few) {f__law_many : Addr} {fd__law_many : FuncData} (C__law_many : Cal P w K mg base "_law_many" 1 [] (spP 0 (runP 3 m__law_many)) f__law_many fd__law_many) {f__law_dues : Addr} {fd__law_dues : FuncData} (C__law_dues : Cal P w K mg base "_law_dues" 2 ["_law_names_here", "_law_digits", "_law_copies", "_law_parts"] (spP 4 (runP 11 m__law_dues)) f__law_dues fd__law_dues) (w_fewest_further_210 : ∀ (s : Shared) (ws : List Value), (perm [2, 1, 0] ws).length = 3 → BindsTo s fd_fewest_further ⟨[], (["giving", "holders", "net"] : List Str).zip ws⟩ ((["net", "holders", "giving"] : List Str).zip (perm [2, 1, 0] ws))) (w_further_copies_210 : ∀ (s : Shared) (ws : List Value), (perm [2, 1, 0] ws).length = 3 → BindsTo s fd_further_copies ⟨[], (["giving", "holders", "net"] : List Str).zip ws⟩ ((["net", "holders", "giving"] : List Str).zip (perm [2, 1, 0] ws))) (w_apart_sets_210 : ∀ (s : Shared) (ws : List Value), (perm [2, 1, 0] ws).length = 3 → BindsTo s fd_apart_sets ⟨[], (["giving", "holders", "net"] : List Str).zip ws⟩ ((["net", "holders", "giving"] : List Str).zip (perm [2, 1, 0] ws))) (F : FnP K "law" s_law f fd) : lawOk 14 m_law → FnG P w K mg base CX0 15 f fd ["_law_script"] (spLaw K) :=
  have nd := sc_law.nd
  fun ok : lawOk 14 m_law => def_law (t := t_law K) F sc_law rfl (by decide) (fun cdv hv A outer s H E hg hr => PSs.nox (pss_cons (ps_set (i := 1) nd rfl (Or.inl rfl) (pe_calC C__law_feed hg hr (by decide) (by rfl) (pa_cons (pv 0) pa_nil))) (pss_cons (ps_set (i := 2) nd rfl (Or.inl rfl) (pe_calC C__law_names hg hr (by decide) (by rfl) (pa_cons (pv 1) pa_nil))) (pss_cons (ps_for PassesOwn.never rfl (pi_any (pe_op op_addU (pe_cal0 C__law_few hg hr (by decide) (by rfl)) (pe_cal0 C__law_many hg hr (by decide) (by rfl)))) (pg_name (i := 3) nd rfl (Or.inl rfl)) (pss_cons (ps_asg (pe_slice sl_U (pv 3) po_none (po_some pe_int)) (pg_ei rfl (pgs_cons (pg_name (i := 5) nd rfl (Or.inl rfl)) (pgs_cons (pg_name (i := 6) nd rfl (Or.inl rfl)) (pgs_cons (pg_name (i := 7) nd rfl (Or.inl rfl)) (pgs_cons (pg_name (i := 8) nd rfl (Or.inl rfl)) pgs_nil)))))) (pss_cons (ps_asg (pe_calC C__law_scene hg hr (by decide) (by rfl) (pa_cons (pv 2) (pa_cons (pv 5) (pa_cons (pv 6) (pa_cons (pv 7) pa_nil))))) (pg_ei rfl (pgs_cons (pg_name (i := 9) nd rfl (Or.inl rfl)) (pgs_cons (pg_name (i := 10) nd rfl (Or.inl rfl)) pgs_nil)))) (pss_cons (ps_asg (pe_calC C__law_dues hg hr (by decide) (by rfl) (pa_cons (pv 2) (pa_cons (pe_ix (ix_A (hu64 hr)) (pv 3) pe_int (fun _ _ => rfl)) (pa_cons (pe_ix (ix_A (hu64 hr)) (pv 3) pe_int (fun _ _ => rfl)) (pa_cons (pe_ix (ix_A (hu64 hr)) (pv 3) pe_int (fun _ _ => rfl)) pa_nil))))) (pg_ei rfl (pgs_cons (pg_name (i := 11) nd rfl (Or.inl rfl)) (pgs_cons (pg_name (i := 12) nd rfl (Or.inl rfl)) (pgs_cons (pg_name (i := 13) nd rfl (Or.inl rfl)) pgs_nil))))) (pss_cons (ps_set (i := 4) nd rfl (Or.inl rfl) (pe_lst (pa_cons (pe_calC C_fewest_further hg hr (by decide) (by rfl) (pa_cons (pv 9) (pa_cons (pv 10) (pa_cons (pv 8) pa_nil)))) (pa_cons (pe_calK C_fewest_further hg hr (by decide) (by rfl) w_fewest_further_210 (pk_cons (pv 8) (pk_cons (pv 10) (pk_cons (pv 9) pk_nil)))) pa_nil)))) (pss_cons (ps_if (pw_or (pt_cmpR (op_notInA (hu65 hr)) (pe_callB (call_repr (hg rfl) (hu64 hr)) (by rfl) b_repr boot_repr (pa_cons (pe_ix (ix_A (hu64 hr)) (pv 4) pe_int (fun _ _ => rfl)) pa_nil)) (pv 11) (by with_unfolding_all rfl)) (pw_or1 (pt_cmpR (op_notInA (hu65 hr)) (pe_callB (call_repr (hg rfl) (hu64 hr)) (by rfl) b_repr boot_repr (pa_cons (pe_ix (ix_A (hu64 hr)) (pv 4) pe_int (fun _ _ => rfl)) pa_nil)) (pv 11) (by with_unfolding_all rfl)))).pt (pss_one (ps_ret pe_bl)) pss_nil) (pss_cons (ps_set (i := 4) nd rfl (Or.inl rfl) (pe_lst (pa_cons (pe_calC C_further_copies hg hr (by decide) (by rfl) (pa_cons (pv 9) (pa_cons (pv 10) (pa_cons (pv 8) pa_nil)))) pa_nil))) (pss_cons (ps_expr (pe_bm PySem.F.plainAttrs_list PySem.F.slot_list_append PySem.F.type_list_append mt_append (pv 4) (pa_cons (pe_calK C_further_copies hg hr (by decide) (by rfl) w_further_copies_210 (pk_cons (pv 8) (pk_cons (pv 10) (pk_cons (pv 9) pk_nil)))) pa_nil))) (pss_cons (ps_if (pw_or (pt_cmpR (op_notInA (hu65 hr)) (pe_callB (call_repr (hg rfl) (hu64 hr)) (by rfl) b_repr boot_repr (pa_cons (pe_ix (ix_A (hu64 hr)) (pv 4) pe_int (fun _ _ => rfl)) pa_nil)) (pv 12) (by with_unfolding_all rfl)) (pw_or1 (pt_cmpR (op_notInA (hu65 hr)) (pe_callB (call_repr (hg rfl) (hu64 hr)) (by rfl) b_repr boot_repr (pa_cons (pe_ix (ix_A (hu64 hr)) (pv 4) pe_int (fun _ _ => rfl)) pa_nil)) (pv 12) (by with_unfolding_all rfl)))).pt (pss_one (ps_ret pe_bl)) pss_nil) (pss_cons (ps_set (i := 4) nd rfl (Or.inl rfl) (pe_lst (pa_cons (pe_calC C_apart_sets hg hr (by decide) (by rfl) (pa_cons (pv 9) (pa_cons (pv 10) (pa_cons (pv 8) pa_nil)))) pa_nil))) (pss_cons (ps_expr (pe_bm PySem.F.plainAttrs_list PySem.F.slot_list_append PySem.F.type_list_append mt_append (pv 4) (pa_cons (pe_calK C_apart_sets hg hr (by decide) (by rfl) w_apart_sets_210 (pk_cons (pv 8) (pk_cons (pv 10) (pk_cons (pv 9) pk_nil)))) pa_nil))) (pss_one (ps_if (pw_or (pt_cmpR (op_notInA (hu65 hr)) (pe_callB (call_repr (hg rfl) (hu64 hr)) (by rfl) b_repr boot_repr (pa_cons (pe_ix (ix_A (hu64 hr)) (pv 4) pe_int (fun _ _ => rfl)) pa_nil)) (pv 13) (by with_unfolding_all rfl)) (pw_or1 (pt_cmpR (op_notInA (hu65 hr)) (pe_callB (call_repr (hg rfl) (hu64 hr)) (by rfl) b_repr boot_repr (pa_cons (pe_ix (ix_A (hu64 hr)) (pv 4) pe_int (fun _ _ => rfl)) pa_nil)) (pv 13) (by with_unfolding_all rfl)))).pt (pss_one (ps_ret pe_bl)) pss_nil))))))))))))) (pss_one (ps_ret pe_bl)))))) (ss_law K) ok
end
end H52

namespace H52
noncomputable section
open PySem PySem.Spec PyProof.Rows L2 RZ AP
variable [Tbls]
def dc : DC := ⟨10366, 1000311157, 91062, 616, 2147466589, 1104446, 654, 2147466547, 762, 2147466539⟩
def im1 : IM := (mAnyI (mOp gAddU (mCall 0 (runP 3 m__law_few) mNil) (mCall 0 (runP 3 m__law_many) mNil)))
def tg1 : GM := (mgName 3)
def tb1 : SM := (mSeq (mAsg (mSl gSl (mVar 3) mNoPart (mPart (mC (.int 4)))) (mgSeq 4 (mgCons (mgName 5) (mgCons (mgName 6) (mgCons (mgName 7) (mgCons (mgName 8) mgNil)))))) (mSeq (mAsg (mCall 4 (runP 7 m__law_scene) (mCons (mVar 2) (mCons (mVar 5) (mCons (mVar 6) (mCons (mVar 7) mNil))))) (mgSeq 2 (mgCons (mgName 9) (mgCons (mgName 10) mgNil)))) (mSeq (mAsg (mCall 4 (runP 11 m__law_dues) (mCons (mVar 2) (mCons (mOp gIx (mVar 3) (mC (.int 4))) (mCons (mOp gIx (mVar 3) (mC (.int 5))) (mCons (mOp gIx (mVar 3) (mC (.int 6))) mNil))))) (mgSeq 3 (mgCons (mgName 11) (mgCons (mgName 12) (mgCons (mgName 13) mgNil))))) (mSeq (mOwn (mLstN (mCons (mCall 3 (runP 4 m_fewest_further) (mCons (mVar 9) (mCons (mVar 10) (mCons (mVar 8) mNil)))) (mCons (mCallK 3 (runP 4 m_fewest_further) [2, 1, 0] (mCons (mVar 8) (mCons (mVar 10) (mCons (mVar 9) mNil)))) mNil))) 4) (mSeq (mIfS (mOr (mTest (mOp gNotIn (mCB gRepr (mCons (mOp gIx (mVar 4) (mC (.int 0))) mNil)) (mVar 11))) (mTest (mOp gNotIn (mCB gRepr (mCons (mOp gIx (mVar 4) (mC (.int 1))) mNil)) (mVar 11)))) (mRet (mC (.bool false))) mNext) (mSeq (mOwn (mLstN (mCons (mCall 3 (runP 10 m_further_copies) (mCons (mVar 9) (mCons (mVar 10) (mCons (mVar 8) mNil)))) mNil)) 4) (mSeq (mApp (mVar 4) (mCallK 3 (runP 10 m_further_copies) [2, 1, 0] (mCons (mVar 8) (mCons (mVar 10) (mCons (mVar 9) mNil))))) (mSeq (mIfS (mOr (mTest (mOp gNotIn (mCB gRepr (mCons (mOp gIx (mVar 4) (mC (.int 0))) mNil)) (mVar 12))) (mTest (mOp gNotIn (mCB gRepr (mCons (mOp gIx (mVar 4) (mC (.int 1))) mNil)) (mVar 12)))) (mRet (mC (.bool false))) mNext) (mSeq (mOwn (mLstN (mCons (mCall 3 (runP 7 m_apart_sets) (mCons (mVar 9) (mCons (mVar 10) (mCons (mVar 8) mNil)))) mNil)) 4) (mSeq (mApp (mVar 4) (mCallK 3 (runP 7 m_apart_sets) [2, 1, 0] (mCons (mVar 8) (mCons (mVar 10) (mCons (mVar 9) mNil))))) (mIfS (mOr (mTest (mOp gNotIn (mCB gRepr (mCons (mOp gIx (mVar 4) (mC (.int 0))) mNil)) (mVar 13))) (mTest (mOp gNotIn (mCB gRepr (mCons (mOp gIx (mVar 4) (mC (.int 1))) mNil)) (mVar 13)))) (mRet (mC (.bool false))) mNext)))))))))))
def rows : List D := match im1 ⟨[], []⟩ with
  | some (xs, _) => xs
  | none => []
theorem rows_len : rows.length = 13 := by kernel_rfl
theorem rows_im (σ : List (Option SV)) (o : List MO) : im1 ⟨σ, o⟩ = some (rows, o) := by kernel_rfl
def L0 : List Str := [⟨⟨[97, 110, 110]⟩⟩, ⟨⟨[98, 101, 97]⟩⟩, ⟨⟨[99, 121, 100]⟩⟩, ⟨⟨[100, 111, 118]⟩⟩, ⟨⟨[101, 118, 101]⟩⟩, ⟨⟨[102, 105, 111]⟩⟩]
def L1 : List Str := [⟨⟨[102, 117, 114, 116, 104, 101, 114]⟩⟩, ⟨⟨[104, 111, 117, 115, 101, 115]⟩⟩, ⟨⟨[110, 111, 110, 101]⟩⟩, ⟨⟨[112, 105, 101, 99, 101]⟩⟩, ⟨⟨[115, 104, 111, 114, 116]⟩⟩, ⟨⟨[119, 105, 114, 101]⟩⟩]
def L2 : List Str := [⟨⟨[97]⟩⟩, ⟨⟨[97, 98]⟩⟩, ⟨⟨[97, 98, 99]⟩⟩, ⟨⟨[98]⟩⟩, ⟨⟨[122, 122]⟩⟩, ⟨⟨[122, 122, 122, 122, 122, 122, 122, 122]⟩⟩]
def L3 : List Str := [⟨⟨[106]⟩⟩, ⟨⟨[107]⟩⟩, ⟨⟨[108]⟩⟩, ⟨⟨[109]⟩⟩, ⟨⟨[110]⟩⟩, ⟨⟨[111]⟩⟩]
def L4 : List Str := [⟨⟨[101, 110, 100]⟩⟩, ⟨⟨[111, 117, 116, 115, 105, 100, 101]⟩⟩, ⟨⟨[115, 105, 110, 107]⟩⟩, ⟨⟨[115, 111, 117, 114, 99, 101]⟩⟩, ⟨⟨[115, 116, 97, 114, 116]⟩⟩, ⟨⟨[116, 97, 114, 103, 101, 116]⟩⟩]
def L5 : List Str := [⟨⟨[103]⟩⟩, ⟨⟨[107]⟩⟩, ⟨⟨[110]⟩⟩, ⟨⟨[115]⟩⟩, ⟨⟨[116]⟩⟩, ⟨⟨[117]⟩⟩]
end
end H52

namespace H52
noncomputable section
open PySem PySem.Spec PyProof.Rows L2 RZ AP
variable [Tbls]
theorem r0_0 (σ : List (Option SV)) (o : List MO) (h1 : σ.length = 11) (h2 : o.length = 1) : isTurn 11 4 L0 (turnM tg1 tb1 (rows.getD 0 .none) ⟨none :: some (.m 0) :: some (.d (.list (L0.map .str))) :: σ, o⟩) = true := by
  obtain ⟨v0, vr0, rfl, h1_0⟩ := ex_succ h1
  obtain ⟨v1, vr1, rfl, h1_1⟩ := ex_succ h1_0
  obtain ⟨v2, vr2, rfl, h1_2⟩ := ex_succ h1_1
  obtain ⟨v3, vr3, rfl, h1_3⟩ := ex_succ h1_2
  obtain ⟨v4, vr4, rfl, h1_4⟩ := ex_succ h1_3
  obtain ⟨v5, vr5, rfl, h1_5⟩ := ex_succ h1_4
  obtain ⟨v6, vr6, rfl, h1_6⟩ := ex_succ h1_5
  obtain ⟨v7, vr7, rfl, h1_7⟩ := ex_succ h1_6
  obtain ⟨v8, vr8, rfl, h1_8⟩ := ex_succ h1_7
  obtain ⟨v9, vr9, rfl, h1_9⟩ := ex_succ h1_8
  obtain ⟨v10, vr10, rfl, h1_10⟩ := ex_succ h1_9
  obtain rfl := List.length_eq_zero_iff.mp h1_10
  obtain ⟨x0, xr0, rfl, h2_0⟩ := ex_succ h2
  obtain rfl := List.length_eq_zero_iff.mp h2_0
  kernel_rfl
theorem r0_1 (σ : List (Option SV)) (o : List MO) (h1 : σ.length = 11) (h2 : o.length = 4) : isTurn 11 7 L0 (turnM tg1 tb1 (rows.getD 1 .none) ⟨none :: some (.m 0) :: some (.d (.list (L0.map .str))) :: σ, o⟩) = true := by
  obtain ⟨v0, vr0, rfl, h1_0⟩ := ex_succ h1
  obtain ⟨v1, vr1, rfl, h1_1⟩ := ex_succ h1_0
  obtain ⟨v2, vr2, rfl, h1_2⟩ := ex_succ h1_1
  obtain ⟨v3, vr3, rfl, h1_3⟩ := ex_succ h1_2
  obtain ⟨v4, vr4, rfl, h1_4⟩ := ex_succ h1_3
  obtain ⟨v5, vr5, rfl, h1_5⟩ := ex_succ h1_4
  obtain ⟨v6, vr6, rfl, h1_6⟩ := ex_succ h1_5
  obtain ⟨v7, vr7, rfl, h1_7⟩ := ex_succ h1_6
  obtain ⟨v8, vr8, rfl, h1_8⟩ := ex_succ h1_7
  obtain ⟨v9, vr9, rfl, h1_9⟩ := ex_succ h1_8
  obtain ⟨v10, vr10, rfl, h1_10⟩ := ex_succ h1_9
  obtain rfl := List.length_eq_zero_iff.mp h1_10
  obtain ⟨x0, xr0, rfl, h2_0⟩ := ex_succ h2
  obtain ⟨x1, xr1, rfl, h2_1⟩ := ex_succ h2_0
  obtain ⟨x2, xr2, rfl, h2_2⟩ := ex_succ h2_1
  obtain ⟨x3, xr3, rfl, h2_3⟩ := ex_succ h2_2
  obtain rfl := List.length_eq_zero_iff.mp h2_3
  kernel_rfl
theorem r0_2 (σ : List (Option SV)) (o : List MO) (h1 : σ.length = 11) (h2 : o.length = 7) : isTurn 11 10 L0 (turnM tg1 tb1 (rows.getD 2 .none) ⟨none :: some (.m 0) :: some (.d (.list (L0.map .str))) :: σ, o⟩) = true := by
  obtain ⟨v0, vr0, rfl, h1_0⟩ := ex_succ h1
  obtain ⟨v1, vr1, rfl, h1_1⟩ := ex_succ h1_0
  obtain ⟨v2, vr2, rfl, h1_2⟩ := ex_succ h1_1
  obtain ⟨v3, vr3, rfl, h1_3⟩ := ex_succ h1_2
  obtain ⟨v4, vr4, rfl, h1_4⟩ := ex_succ h1_3
  obtain ⟨v5, vr5, rfl, h1_5⟩ := ex_succ h1_4
  obtain ⟨v6, vr6, rfl, h1_6⟩ := ex_succ h1_5
  obtain ⟨v7, vr7, rfl, h1_7⟩ := ex_succ h1_6
  obtain ⟨v8, vr8, rfl, h1_8⟩ := ex_succ h1_7
  obtain ⟨v9, vr9, rfl, h1_9⟩ := ex_succ h1_8
  obtain ⟨v10, vr10, rfl, h1_10⟩ := ex_succ h1_9
  obtain rfl := List.length_eq_zero_iff.mp h1_10
  obtain ⟨x0, xr0, rfl, h2_0⟩ := ex_succ h2
  obtain ⟨x1, xr1, rfl, h2_1⟩ := ex_succ h2_0
  obtain ⟨x2, xr2, rfl, h2_2⟩ := ex_succ h2_1
  obtain ⟨x3, xr3, rfl, h2_3⟩ := ex_succ h2_2
  obtain ⟨x4, xr4, rfl, h2_4⟩ := ex_succ h2_3
  obtain ⟨x5, xr5, rfl, h2_5⟩ := ex_succ h2_4
  obtain ⟨x6, xr6, rfl, h2_6⟩ := ex_succ h2_5
  obtain rfl := List.length_eq_zero_iff.mp h2_6
  kernel_rfl
theorem r0_3 (σ : List (Option SV)) (o : List MO) (h1 : σ.length = 11) (h2 : o.length = 10) : isTurn 11 13 L0 (turnM tg1 tb1 (rows.getD 3 .none) ⟨none :: some (.m 0) :: some (.d (.list (L0.map .str))) :: σ, o⟩) = true := by
  obtain ⟨v0, vr0, rfl, h1_0⟩ := ex_succ h1
  obtain ⟨v1, vr1, rfl, h1_1⟩ := ex_succ h1_0
  obtain ⟨v2, vr2, rfl, h1_2⟩ := ex_succ h1_1
  obtain ⟨v3, vr3, rfl, h1_3⟩ := ex_succ h1_2
  obtain ⟨v4, vr4, rfl, h1_4⟩ := ex_succ h1_3
  obtain ⟨v5, vr5, rfl, h1_5⟩ := ex_succ h1_4
  obtain ⟨v6, vr6, rfl, h1_6⟩ := ex_succ h1_5
  obtain ⟨v7, vr7, rfl, h1_7⟩ := ex_succ h1_6
  obtain ⟨v8, vr8, rfl, h1_8⟩ := ex_succ h1_7
  obtain ⟨v9, vr9, rfl, h1_9⟩ := ex_succ h1_8
  obtain ⟨v10, vr10, rfl, h1_10⟩ := ex_succ h1_9
  obtain rfl := List.length_eq_zero_iff.mp h1_10
  obtain ⟨x0, xr0, rfl, h2_0⟩ := ex_succ h2
  obtain ⟨x1, xr1, rfl, h2_1⟩ := ex_succ h2_0
  obtain ⟨x2, xr2, rfl, h2_2⟩ := ex_succ h2_1
  obtain ⟨x3, xr3, rfl, h2_3⟩ := ex_succ h2_2
  obtain ⟨x4, xr4, rfl, h2_4⟩ := ex_succ h2_3
  obtain ⟨x5, xr5, rfl, h2_5⟩ := ex_succ h2_4
  obtain ⟨x6, xr6, rfl, h2_6⟩ := ex_succ h2_5
  obtain ⟨x7, xr7, rfl, h2_7⟩ := ex_succ h2_6
  obtain ⟨x8, xr8, rfl, h2_8⟩ := ex_succ h2_7
  obtain ⟨x9, xr9, rfl, h2_9⟩ := ex_succ h2_8
  obtain rfl := List.length_eq_zero_iff.mp h2_9
  kernel_rfl
theorem r0_4 (σ : List (Option SV)) (o : List MO) (h1 : σ.length = 11) (h2 : o.length = 13) : isTurn 11 16 L0 (turnM tg1 tb1 (rows.getD 4 .none) ⟨none :: some (.m 0) :: some (.d (.list (L0.map .str))) :: σ, o⟩) = true := by
  obtain ⟨v0, vr0, rfl, h1_0⟩ := ex_succ h1
  obtain ⟨v1, vr1, rfl, h1_1⟩ := ex_succ h1_0
  obtain ⟨v2, vr2, rfl, h1_2⟩ := ex_succ h1_1
  obtain ⟨v3, vr3, rfl, h1_3⟩ := ex_succ h1_2
  obtain ⟨v4, vr4, rfl, h1_4⟩ := ex_succ h1_3
  obtain ⟨v5, vr5, rfl, h1_5⟩ := ex_succ h1_4
  obtain ⟨v6, vr6, rfl, h1_6⟩ := ex_succ h1_5
  obtain ⟨v7, vr7, rfl, h1_7⟩ := ex_succ h1_6
  obtain ⟨v8, vr8, rfl, h1_8⟩ := ex_succ h1_7
  obtain ⟨v9, vr9, rfl, h1_9⟩ := ex_succ h1_8
  obtain ⟨v10, vr10, rfl, h1_10⟩ := ex_succ h1_9
  obtain rfl := List.length_eq_zero_iff.mp h1_10
  obtain ⟨x0, xr0, rfl, h2_0⟩ := ex_succ h2
  obtain ⟨x1, xr1, rfl, h2_1⟩ := ex_succ h2_0
  obtain ⟨x2, xr2, rfl, h2_2⟩ := ex_succ h2_1
  obtain ⟨x3, xr3, rfl, h2_3⟩ := ex_succ h2_2
  obtain ⟨x4, xr4, rfl, h2_4⟩ := ex_succ h2_3
  obtain ⟨x5, xr5, rfl, h2_5⟩ := ex_succ h2_4
  obtain ⟨x6, xr6, rfl, h2_6⟩ := ex_succ h2_5
  obtain ⟨x7, xr7, rfl, h2_7⟩ := ex_succ h2_6
  obtain ⟨x8, xr8, rfl, h2_8⟩ := ex_succ h2_7
  obtain ⟨x9, xr9, rfl, h2_9⟩ := ex_succ h2_8
  obtain ⟨x10, xr10, rfl, h2_10⟩ := ex_succ h2_9
  obtain ⟨x11, xr11, rfl, h2_11⟩ := ex_succ h2_10
  obtain ⟨x12, xr12, rfl, h2_12⟩ := ex_succ h2_11
  obtain rfl := List.length_eq_zero_iff.mp h2_12
  kernel_rfl
theorem r0_5 (σ : List (Option SV)) (o : List MO) (h1 : σ.length = 11) (h2 : o.length = 16) : isTurn 11 19 L0 (turnM tg1 tb1 (rows.getD 5 .none) ⟨none :: some (.m 0) :: some (.d (.list (L0.map .str))) :: σ, o⟩) = true := by
  obtain ⟨v0, vr0, rfl, h1_0⟩ := ex_succ h1
  obtain ⟨v1, vr1, rfl, h1_1⟩ := ex_succ h1_0
  obtain ⟨v2, vr2, rfl, h1_2⟩ := ex_succ h1_1
  obtain ⟨v3, vr3, rfl, h1_3⟩ := ex_succ h1_2
  obtain ⟨v4, vr4, rfl, h1_4⟩ := ex_succ h1_3
  obtain ⟨v5, vr5, rfl, h1_5⟩ := ex_succ h1_4
  obtain ⟨v6, vr6, rfl, h1_6⟩ := ex_succ h1_5
  obtain ⟨v7, vr7, rfl, h1_7⟩ := ex_succ h1_6
  obtain ⟨v8, vr8, rfl, h1_8⟩ := ex_succ h1_7
  obtain ⟨v9, vr9, rfl, h1_9⟩ := ex_succ h1_8
  obtain ⟨v10, vr10, rfl, h1_10⟩ := ex_succ h1_9
  obtain rfl := List.length_eq_zero_iff.mp h1_10
  obtain ⟨x0, xr0, rfl, h2_0⟩ := ex_succ h2
  obtain ⟨x1, xr1, rfl, h2_1⟩ := ex_succ h2_0
  obtain ⟨x2, xr2, rfl, h2_2⟩ := ex_succ h2_1
  obtain ⟨x3, xr3, rfl, h2_3⟩ := ex_succ h2_2
  obtain ⟨x4, xr4, rfl, h2_4⟩ := ex_succ h2_3
  obtain ⟨x5, xr5, rfl, h2_5⟩ := ex_succ h2_4
  obtain ⟨x6, xr6, rfl, h2_6⟩ := ex_succ h2_5
  obtain ⟨x7, xr7, rfl, h2_7⟩ := ex_succ h2_6
  obtain ⟨x8, xr8, rfl, h2_8⟩ := ex_succ h2_7
  obtain ⟨x9, xr9, rfl, h2_9⟩ := ex_succ h2_8
  obtain ⟨x10, xr10, rfl, h2_10⟩ := ex_succ h2_9
  obtain ⟨x11, xr11, rfl, h2_11⟩ := ex_succ h2_10
  obtain ⟨x12, xr12, rfl, h2_12⟩ := ex_succ h2_11
  obtain ⟨x13, xr13, rfl, h2_13⟩ := ex_succ h2_12
  obtain ⟨x14, xr14, rfl, h2_14⟩ := ex_succ h2_13
  obtain ⟨x15, xr15, rfl, h2_15⟩ := ex_succ h2_14
  obtain rfl := List.length_eq_zero_iff.mp h2_15
  kernel_rfl
theorem r0_6 (σ : List (Option SV)) (o : List MO) (h1 : σ.length = 11) (h2 : o.length = 19) : isTurn 11 22 L0 (turnM tg1 tb1 (rows.getD 6 .none) ⟨none :: some (.m 0) :: some (.d (.list (L0.map .str))) :: σ, o⟩) = true := by
  obtain ⟨v0, vr0, rfl, h1_0⟩ := ex_succ h1
  obtain ⟨v1, vr1, rfl, h1_1⟩ := ex_succ h1_0
  obtain ⟨v2, vr2, rfl, h1_2⟩ := ex_succ h1_1
  obtain ⟨v3, vr3, rfl, h1_3⟩ := ex_succ h1_2
  obtain ⟨v4, vr4, rfl, h1_4⟩ := ex_succ h1_3
  obtain ⟨v5, vr5, rfl, h1_5⟩ := ex_succ h1_4
  obtain ⟨v6, vr6, rfl, h1_6⟩ := ex_succ h1_5
  obtain ⟨v7, vr7, rfl, h1_7⟩ := ex_succ h1_6
  obtain ⟨v8, vr8, rfl, h1_8⟩ := ex_succ h1_7
  obtain ⟨v9, vr9, rfl, h1_9⟩ := ex_succ h1_8
  obtain ⟨v10, vr10, rfl, h1_10⟩ := ex_succ h1_9
  obtain rfl := List.length_eq_zero_iff.mp h1_10
  obtain ⟨x0, xr0, rfl, h2_0⟩ := ex_succ h2
  obtain ⟨x1, xr1, rfl, h2_1⟩ := ex_succ h2_0
  obtain ⟨x2, xr2, rfl, h2_2⟩ := ex_succ h2_1
  obtain ⟨x3, xr3, rfl, h2_3⟩ := ex_succ h2_2
  obtain ⟨x4, xr4, rfl, h2_4⟩ := ex_succ h2_3
  obtain ⟨x5, xr5, rfl, h2_5⟩ := ex_succ h2_4
  obtain ⟨x6, xr6, rfl, h2_6⟩ := ex_succ h2_5
  obtain ⟨x7, xr7, rfl, h2_7⟩ := ex_succ h2_6
  obtain ⟨x8, xr8, rfl, h2_8⟩ := ex_succ h2_7
  obtain ⟨x9, xr9, rfl, h2_9⟩ := ex_succ h2_8
  obtain ⟨x10, xr10, rfl, h2_10⟩ := ex_succ h2_9
  obtain ⟨x11, xr11, rfl, h2_11⟩ := ex_succ h2_10
  obtain ⟨x12, xr12, rfl, h2_12⟩ := ex_succ h2_11
  obtain ⟨x13, xr13, rfl, h2_13⟩ := ex_succ h2_12
  obtain ⟨x14, xr14, rfl, h2_14⟩ := ex_succ h2_13
  obtain ⟨x15, xr15, rfl, h2_15⟩ := ex_succ h2_14
  obtain ⟨x16, xr16, rfl, h2_16⟩ := ex_succ h2_15
  obtain ⟨x17, xr17, rfl, h2_17⟩ := ex_succ h2_16
  obtain ⟨x18, xr18, rfl, h2_18⟩ := ex_succ h2_17
  obtain rfl := List.length_eq_zero_iff.mp h2_18
  kernel_rfl
theorem r0_7 (σ : List (Option SV)) (o : List MO) (h1 : σ.length = 11) (h2 : o.length = 22) : isTurn 11 25 L0 (turnM tg1 tb1 (rows.getD 7 .none) ⟨none :: some (.m 0) :: some (.d (.list (L0.map .str))) :: σ, o⟩) = true := by
  obtain ⟨v0, vr0, rfl, h1_0⟩ := ex_succ h1
  obtain ⟨v1, vr1, rfl, h1_1⟩ := ex_succ h1_0
  obtain ⟨v2, vr2, rfl, h1_2⟩ := ex_succ h1_1
  obtain ⟨v3, vr3, rfl, h1_3⟩ := ex_succ h1_2
  obtain ⟨v4, vr4, rfl, h1_4⟩ := ex_succ h1_3
  obtain ⟨v5, vr5, rfl, h1_5⟩ := ex_succ h1_4
  obtain ⟨v6, vr6, rfl, h1_6⟩ := ex_succ h1_5
  obtain ⟨v7, vr7, rfl, h1_7⟩ := ex_succ h1_6
  obtain ⟨v8, vr8, rfl, h1_8⟩ := ex_succ h1_7
  obtain ⟨v9, vr9, rfl, h1_9⟩ := ex_succ h1_8
  obtain ⟨v10, vr10, rfl, h1_10⟩ := ex_succ h1_9
  obtain rfl := List.length_eq_zero_iff.mp h1_10
  obtain ⟨x0, xr0, rfl, h2_0⟩ := ex_succ h2
  obtain ⟨x1, xr1, rfl, h2_1⟩ := ex_succ h2_0
  obtain ⟨x2, xr2, rfl, h2_2⟩ := ex_succ h2_1
  obtain ⟨x3, xr3, rfl, h2_3⟩ := ex_succ h2_2
  obtain ⟨x4, xr4, rfl, h2_4⟩ := ex_succ h2_3
  obtain ⟨x5, xr5, rfl, h2_5⟩ := ex_succ h2_4
  obtain ⟨x6, xr6, rfl, h2_6⟩ := ex_succ h2_5
  obtain ⟨x7, xr7, rfl, h2_7⟩ := ex_succ h2_6
  obtain ⟨x8, xr8, rfl, h2_8⟩ := ex_succ h2_7
  obtain ⟨x9, xr9, rfl, h2_9⟩ := ex_succ h2_8
  obtain ⟨x10, xr10, rfl, h2_10⟩ := ex_succ h2_9
  obtain ⟨x11, xr11, rfl, h2_11⟩ := ex_succ h2_10
  obtain ⟨x12, xr12, rfl, h2_12⟩ := ex_succ h2_11
  obtain ⟨x13, xr13, rfl, h2_13⟩ := ex_succ h2_12
  obtain ⟨x14, xr14, rfl, h2_14⟩ := ex_succ h2_13
  obtain ⟨x15, xr15, rfl, h2_15⟩ := ex_succ h2_14
  obtain ⟨x16, xr16, rfl, h2_16⟩ := ex_succ h2_15
  obtain ⟨x17, xr17, rfl, h2_17⟩ := ex_succ h2_16
  obtain ⟨x18, xr18, rfl, h2_18⟩ := ex_succ h2_17
  obtain ⟨x19, xr19, rfl, h2_19⟩ := ex_succ h2_18
  obtain ⟨x20, xr20, rfl, h2_20⟩ := ex_succ h2_19
  obtain ⟨x21, xr21, rfl, h2_21⟩ := ex_succ h2_20
  obtain rfl := List.length_eq_zero_iff.mp h2_21
  kernel_rfl
theorem r0_8 (σ : List (Option SV)) (o : List MO) (h1 : σ.length = 11) (h2 : o.length = 25) : isTurn 11 28 L0 (turnM tg1 tb1 (rows.getD 8 .none) ⟨none :: some (.m 0) :: some (.d (.list (L0.map .str))) :: σ, o⟩) = true := by
  obtain ⟨v0, vr0, rfl, h1_0⟩ := ex_succ h1
  obtain ⟨v1, vr1, rfl, h1_1⟩ := ex_succ h1_0
  obtain ⟨v2, vr2, rfl, h1_2⟩ := ex_succ h1_1
  obtain ⟨v3, vr3, rfl, h1_3⟩ := ex_succ h1_2
  obtain ⟨v4, vr4, rfl, h1_4⟩ := ex_succ h1_3
  obtain ⟨v5, vr5, rfl, h1_5⟩ := ex_succ h1_4
  obtain ⟨v6, vr6, rfl, h1_6⟩ := ex_succ h1_5
  obtain ⟨v7, vr7, rfl, h1_7⟩ := ex_succ h1_6
  obtain ⟨v8, vr8, rfl, h1_8⟩ := ex_succ h1_7
  obtain ⟨v9, vr9, rfl, h1_9⟩ := ex_succ h1_8
  obtain ⟨v10, vr10, rfl, h1_10⟩ := ex_succ h1_9
  obtain rfl := List.length_eq_zero_iff.mp h1_10
  obtain ⟨x0, xr0, rfl, h2_0⟩ := ex_succ h2
  obtain ⟨x1, xr1, rfl, h2_1⟩ := ex_succ h2_0
  obtain ⟨x2, xr2, rfl, h2_2⟩ := ex_succ h2_1
  obtain ⟨x3, xr3, rfl, h2_3⟩ := ex_succ h2_2
  obtain ⟨x4, xr4, rfl, h2_4⟩ := ex_succ h2_3
  obtain ⟨x5, xr5, rfl, h2_5⟩ := ex_succ h2_4
  obtain ⟨x6, xr6, rfl, h2_6⟩ := ex_succ h2_5
  obtain ⟨x7, xr7, rfl, h2_7⟩ := ex_succ h2_6
  obtain ⟨x8, xr8, rfl, h2_8⟩ := ex_succ h2_7
  obtain ⟨x9, xr9, rfl, h2_9⟩ := ex_succ h2_8
  obtain ⟨x10, xr10, rfl, h2_10⟩ := ex_succ h2_9
  obtain ⟨x11, xr11, rfl, h2_11⟩ := ex_succ h2_10
  obtain ⟨x12, xr12, rfl, h2_12⟩ := ex_succ h2_11
  obtain ⟨x13, xr13, rfl, h2_13⟩ := ex_succ h2_12
  obtain ⟨x14, xr14, rfl, h2_14⟩ := ex_succ h2_13
  obtain ⟨x15, xr15, rfl, h2_15⟩ := ex_succ h2_14
  obtain ⟨x16, xr16, rfl, h2_16⟩ := ex_succ h2_15
  obtain ⟨x17, xr17, rfl, h2_17⟩ := ex_succ h2_16
  obtain ⟨x18, xr18, rfl, h2_18⟩ := ex_succ h2_17
  obtain ⟨x19, xr19, rfl, h2_19⟩ := ex_succ h2_18
  obtain ⟨x20, xr20, rfl, h2_20⟩ := ex_succ h2_19
  obtain ⟨x21, xr21, rfl, h2_21⟩ := ex_succ h2_20
  obtain ⟨x22, xr22, rfl, h2_22⟩ := ex_succ h2_21
  obtain ⟨x23, xr23, rfl, h2_23⟩ := ex_succ h2_22
  obtain ⟨x24, xr24, rfl, h2_24⟩ := ex_succ h2_23
  obtain rfl := List.length_eq_zero_iff.mp h2_24
  kernel_rfl
theorem r0_9 (σ : List (Option SV)) (o : List MO) (h1 : σ.length = 11) (h2 : o.length = 28) : isTurn 11 31 L0 (turnM tg1 tb1 (rows.getD 9 .none) ⟨none :: some (.m 0) :: some (.d (.list (L0.map .str))) :: σ, o⟩) = true := by
  obtain ⟨v0, vr0, rfl, h1_0⟩ := ex_succ h1
  obtain ⟨v1, vr1, rfl, h1_1⟩ := ex_succ h1_0
  obtain ⟨v2, vr2, rfl, h1_2⟩ := ex_succ h1_1
  obtain ⟨v3, vr3, rfl, h1_3⟩ := ex_succ h1_2
  obtain ⟨v4, vr4, rfl, h1_4⟩ := ex_succ h1_3
  obtain ⟨v5, vr5, rfl, h1_5⟩ := ex_succ h1_4
  obtain ⟨v6, vr6, rfl, h1_6⟩ := ex_succ h1_5
  obtain ⟨v7, vr7, rfl, h1_7⟩ := ex_succ h1_6
  obtain ⟨v8, vr8, rfl, h1_8⟩ := ex_succ h1_7
  obtain ⟨v9, vr9, rfl, h1_9⟩ := ex_succ h1_8
  obtain ⟨v10, vr10, rfl, h1_10⟩ := ex_succ h1_9
  obtain rfl := List.length_eq_zero_iff.mp h1_10
  obtain ⟨x0, xr0, rfl, h2_0⟩ := ex_succ h2
  obtain ⟨x1, xr1, rfl, h2_1⟩ := ex_succ h2_0
  obtain ⟨x2, xr2, rfl, h2_2⟩ := ex_succ h2_1
  obtain ⟨x3, xr3, rfl, h2_3⟩ := ex_succ h2_2
  obtain ⟨x4, xr4, rfl, h2_4⟩ := ex_succ h2_3
  obtain ⟨x5, xr5, rfl, h2_5⟩ := ex_succ h2_4
  obtain ⟨x6, xr6, rfl, h2_6⟩ := ex_succ h2_5
  obtain ⟨x7, xr7, rfl, h2_7⟩ := ex_succ h2_6
  obtain ⟨x8, xr8, rfl, h2_8⟩ := ex_succ h2_7
  obtain ⟨x9, xr9, rfl, h2_9⟩ := ex_succ h2_8
  obtain ⟨x10, xr10, rfl, h2_10⟩ := ex_succ h2_9
  obtain ⟨x11, xr11, rfl, h2_11⟩ := ex_succ h2_10
  obtain ⟨x12, xr12, rfl, h2_12⟩ := ex_succ h2_11
  obtain ⟨x13, xr13, rfl, h2_13⟩ := ex_succ h2_12
  obtain ⟨x14, xr14, rfl, h2_14⟩ := ex_succ h2_13
  obtain ⟨x15, xr15, rfl, h2_15⟩ := ex_succ h2_14
  obtain ⟨x16, xr16, rfl, h2_16⟩ := ex_succ h2_15
  obtain ⟨x17, xr17, rfl, h2_17⟩ := ex_succ h2_16
  obtain ⟨x18, xr18, rfl, h2_18⟩ := ex_succ h2_17
  obtain ⟨x19, xr19, rfl, h2_19⟩ := ex_succ h2_18
  obtain ⟨x20, xr20, rfl, h2_20⟩ := ex_succ h2_19
  obtain ⟨x21, xr21, rfl, h2_21⟩ := ex_succ h2_20
  obtain ⟨x22, xr22, rfl, h2_22⟩ := ex_succ h2_21
  obtain ⟨x23, xr23, rfl, h2_23⟩ := ex_succ h2_22
  obtain ⟨x24, xr24, rfl, h2_24⟩ := ex_succ h2_23
  obtain ⟨x25, xr25, rfl, h2_25⟩ := ex_succ h2_24
  obtain ⟨x26, xr26, rfl, h2_26⟩ := ex_succ h2_25
  obtain ⟨x27, xr27, rfl, h2_27⟩ := ex_succ h2_26
  obtain rfl := List.length_eq_zero_iff.mp h2_27
  kernel_rfl
theorem r0_10 (σ : List (Option SV)) (o : List MO) (h1 : σ.length = 11) (h2 : o.length = 31) : isTurn 11 34 L0 (turnM tg1 tb1 (rows.getD 10 .none) ⟨none :: some (.m 0) :: some (.d (.list (L0.map .str))) :: σ, o⟩) = true := by
  obtain ⟨v0, vr0, rfl, h1_0⟩ := ex_succ h1
  obtain ⟨v1, vr1, rfl, h1_1⟩ := ex_succ h1_0
  obtain ⟨v2, vr2, rfl, h1_2⟩ := ex_succ h1_1
  obtain ⟨v3, vr3, rfl, h1_3⟩ := ex_succ h1_2
  obtain ⟨v4, vr4, rfl, h1_4⟩ := ex_succ h1_3
  obtain ⟨v5, vr5, rfl, h1_5⟩ := ex_succ h1_4
  obtain ⟨v6, vr6, rfl, h1_6⟩ := ex_succ h1_5
  obtain ⟨v7, vr7, rfl, h1_7⟩ := ex_succ h1_6
  obtain ⟨v8, vr8, rfl, h1_8⟩ := ex_succ h1_7
  obtain ⟨v9, vr9, rfl, h1_9⟩ := ex_succ h1_8
  obtain ⟨v10, vr10, rfl, h1_10⟩ := ex_succ h1_9
  obtain rfl := List.length_eq_zero_iff.mp h1_10
  obtain ⟨x0, xr0, rfl, h2_0⟩ := ex_succ h2
  obtain ⟨x1, xr1, rfl, h2_1⟩ := ex_succ h2_0
  obtain ⟨x2, xr2, rfl, h2_2⟩ := ex_succ h2_1
  obtain ⟨x3, xr3, rfl, h2_3⟩ := ex_succ h2_2
  obtain ⟨x4, xr4, rfl, h2_4⟩ := ex_succ h2_3
  obtain ⟨x5, xr5, rfl, h2_5⟩ := ex_succ h2_4
  obtain ⟨x6, xr6, rfl, h2_6⟩ := ex_succ h2_5
  obtain ⟨x7, xr7, rfl, h2_7⟩ := ex_succ h2_6
  obtain ⟨x8, xr8, rfl, h2_8⟩ := ex_succ h2_7
  obtain ⟨x9, xr9, rfl, h2_9⟩ := ex_succ h2_8
  obtain ⟨x10, xr10, rfl, h2_10⟩ := ex_succ h2_9
  obtain ⟨x11, xr11, rfl, h2_11⟩ := ex_succ h2_10
  obtain ⟨x12, xr12, rfl, h2_12⟩ := ex_succ h2_11
  obtain ⟨x13, xr13, rfl, h2_13⟩ := ex_succ h2_12
  obtain ⟨x14, xr14, rfl, h2_14⟩ := ex_succ h2_13
  obtain ⟨x15, xr15, rfl, h2_15⟩ := ex_succ h2_14
  obtain ⟨x16, xr16, rfl, h2_16⟩ := ex_succ h2_15
  obtain ⟨x17, xr17, rfl, h2_17⟩ := ex_succ h2_16
  obtain ⟨x18, xr18, rfl, h2_18⟩ := ex_succ h2_17
  obtain ⟨x19, xr19, rfl, h2_19⟩ := ex_succ h2_18
  obtain ⟨x20, xr20, rfl, h2_20⟩ := ex_succ h2_19
  obtain ⟨x21, xr21, rfl, h2_21⟩ := ex_succ h2_20
  obtain ⟨x22, xr22, rfl, h2_22⟩ := ex_succ h2_21
  obtain ⟨x23, xr23, rfl, h2_23⟩ := ex_succ h2_22
  obtain ⟨x24, xr24, rfl, h2_24⟩ := ex_succ h2_23
  obtain ⟨x25, xr25, rfl, h2_25⟩ := ex_succ h2_24
  obtain ⟨x26, xr26, rfl, h2_26⟩ := ex_succ h2_25
  obtain ⟨x27, xr27, rfl, h2_27⟩ := ex_succ h2_26
  obtain ⟨x28, xr28, rfl, h2_28⟩ := ex_succ h2_27
  obtain ⟨x29, xr29, rfl, h2_29⟩ := ex_succ h2_28
  obtain ⟨x30, xr30, rfl, h2_30⟩ := ex_succ h2_29
  obtain rfl := List.length_eq_zero_iff.mp h2_30
  kernel_rfl
theorem r0_11 (σ : List (Option SV)) (o : List MO) (h1 : σ.length = 11) (h2 : o.length = 34) : isTurn 11 37 L0 (turnM tg1 tb1 (rows.getD 11 .none) ⟨none :: some (.m 0) :: some (.d (.list (L0.map .str))) :: σ, o⟩) = true := by
  obtain ⟨v0, vr0, rfl, h1_0⟩ := ex_succ h1
  obtain ⟨v1, vr1, rfl, h1_1⟩ := ex_succ h1_0
  obtain ⟨v2, vr2, rfl, h1_2⟩ := ex_succ h1_1
  obtain ⟨v3, vr3, rfl, h1_3⟩ := ex_succ h1_2
  obtain ⟨v4, vr4, rfl, h1_4⟩ := ex_succ h1_3
  obtain ⟨v5, vr5, rfl, h1_5⟩ := ex_succ h1_4
  obtain ⟨v6, vr6, rfl, h1_6⟩ := ex_succ h1_5
  obtain ⟨v7, vr7, rfl, h1_7⟩ := ex_succ h1_6
  obtain ⟨v8, vr8, rfl, h1_8⟩ := ex_succ h1_7
  obtain ⟨v9, vr9, rfl, h1_9⟩ := ex_succ h1_8
  obtain ⟨v10, vr10, rfl, h1_10⟩ := ex_succ h1_9
  obtain rfl := List.length_eq_zero_iff.mp h1_10
  obtain ⟨x0, xr0, rfl, h2_0⟩ := ex_succ h2
  obtain ⟨x1, xr1, rfl, h2_1⟩ := ex_succ h2_0
  obtain ⟨x2, xr2, rfl, h2_2⟩ := ex_succ h2_1
  obtain ⟨x3, xr3, rfl, h2_3⟩ := ex_succ h2_2
  obtain ⟨x4, xr4, rfl, h2_4⟩ := ex_succ h2_3
  obtain ⟨x5, xr5, rfl, h2_5⟩ := ex_succ h2_4
  obtain ⟨x6, xr6, rfl, h2_6⟩ := ex_succ h2_5
  obtain ⟨x7, xr7, rfl, h2_7⟩ := ex_succ h2_6
  obtain ⟨x8, xr8, rfl, h2_8⟩ := ex_succ h2_7
  obtain ⟨x9, xr9, rfl, h2_9⟩ := ex_succ h2_8
  obtain ⟨x10, xr10, rfl, h2_10⟩ := ex_succ h2_9
  obtain ⟨x11, xr11, rfl, h2_11⟩ := ex_succ h2_10
  obtain ⟨x12, xr12, rfl, h2_12⟩ := ex_succ h2_11
  obtain ⟨x13, xr13, rfl, h2_13⟩ := ex_succ h2_12
  obtain ⟨x14, xr14, rfl, h2_14⟩ := ex_succ h2_13
  obtain ⟨x15, xr15, rfl, h2_15⟩ := ex_succ h2_14
  obtain ⟨x16, xr16, rfl, h2_16⟩ := ex_succ h2_15
  obtain ⟨x17, xr17, rfl, h2_17⟩ := ex_succ h2_16
  obtain ⟨x18, xr18, rfl, h2_18⟩ := ex_succ h2_17
  obtain ⟨x19, xr19, rfl, h2_19⟩ := ex_succ h2_18
  obtain ⟨x20, xr20, rfl, h2_20⟩ := ex_succ h2_19
  obtain ⟨x21, xr21, rfl, h2_21⟩ := ex_succ h2_20
  obtain ⟨x22, xr22, rfl, h2_22⟩ := ex_succ h2_21
  obtain ⟨x23, xr23, rfl, h2_23⟩ := ex_succ h2_22
  obtain ⟨x24, xr24, rfl, h2_24⟩ := ex_succ h2_23
  obtain ⟨x25, xr25, rfl, h2_25⟩ := ex_succ h2_24
  obtain ⟨x26, xr26, rfl, h2_26⟩ := ex_succ h2_25
  obtain ⟨x27, xr27, rfl, h2_27⟩ := ex_succ h2_26
  obtain ⟨x28, xr28, rfl, h2_28⟩ := ex_succ h2_27
  obtain ⟨x29, xr29, rfl, h2_29⟩ := ex_succ h2_28
  obtain ⟨x30, xr30, rfl, h2_30⟩ := ex_succ h2_29
  obtain ⟨x31, xr31, rfl, h2_31⟩ := ex_succ h2_30
  obtain ⟨x32, xr32, rfl, h2_32⟩ := ex_succ h2_31
  obtain ⟨x33, xr33, rfl, h2_33⟩ := ex_succ h2_32
  obtain rfl := List.length_eq_zero_iff.mp h2_33
  kernel_rfl
theorem r0_12 (σ : List (Option SV)) (o : List MO) (h1 : σ.length = 11) (h2 : o.length = 37) : isTurn 11 40 L0 (turnM tg1 tb1 (rows.getD 12 .none) ⟨none :: some (.m 0) :: some (.d (.list (L0.map .str))) :: σ, o⟩) = true := by
  obtain ⟨v0, vr0, rfl, h1_0⟩ := ex_succ h1
  obtain ⟨v1, vr1, rfl, h1_1⟩ := ex_succ h1_0
  obtain ⟨v2, vr2, rfl, h1_2⟩ := ex_succ h1_1
  obtain ⟨v3, vr3, rfl, h1_3⟩ := ex_succ h1_2
  obtain ⟨v4, vr4, rfl, h1_4⟩ := ex_succ h1_3
  obtain ⟨v5, vr5, rfl, h1_5⟩ := ex_succ h1_4
  obtain ⟨v6, vr6, rfl, h1_6⟩ := ex_succ h1_5
  obtain ⟨v7, vr7, rfl, h1_7⟩ := ex_succ h1_6
  obtain ⟨v8, vr8, rfl, h1_8⟩ := ex_succ h1_7
  obtain ⟨v9, vr9, rfl, h1_9⟩ := ex_succ h1_8
  obtain ⟨v10, vr10, rfl, h1_10⟩ := ex_succ h1_9
  obtain rfl := List.length_eq_zero_iff.mp h1_10
  obtain ⟨x0, xr0, rfl, h2_0⟩ := ex_succ h2
  obtain ⟨x1, xr1, rfl, h2_1⟩ := ex_succ h2_0
  obtain ⟨x2, xr2, rfl, h2_2⟩ := ex_succ h2_1
  obtain ⟨x3, xr3, rfl, h2_3⟩ := ex_succ h2_2
  obtain ⟨x4, xr4, rfl, h2_4⟩ := ex_succ h2_3
  obtain ⟨x5, xr5, rfl, h2_5⟩ := ex_succ h2_4
  obtain ⟨x6, xr6, rfl, h2_6⟩ := ex_succ h2_5
  obtain ⟨x7, xr7, rfl, h2_7⟩ := ex_succ h2_6
  obtain ⟨x8, xr8, rfl, h2_8⟩ := ex_succ h2_7
  obtain ⟨x9, xr9, rfl, h2_9⟩ := ex_succ h2_8
  obtain ⟨x10, xr10, rfl, h2_10⟩ := ex_succ h2_9
  obtain ⟨x11, xr11, rfl, h2_11⟩ := ex_succ h2_10
  obtain ⟨x12, xr12, rfl, h2_12⟩ := ex_succ h2_11
  obtain ⟨x13, xr13, rfl, h2_13⟩ := ex_succ h2_12
  obtain ⟨x14, xr14, rfl, h2_14⟩ := ex_succ h2_13
  obtain ⟨x15, xr15, rfl, h2_15⟩ := ex_succ h2_14
  obtain ⟨x16, xr16, rfl, h2_16⟩ := ex_succ h2_15
  obtain ⟨x17, xr17, rfl, h2_17⟩ := ex_succ h2_16
  obtain ⟨x18, xr18, rfl, h2_18⟩ := ex_succ h2_17
  obtain ⟨x19, xr19, rfl, h2_19⟩ := ex_succ h2_18
  obtain ⟨x20, xr20, rfl, h2_20⟩ := ex_succ h2_19
  obtain ⟨x21, xr21, rfl, h2_21⟩ := ex_succ h2_20
  obtain ⟨x22, xr22, rfl, h2_22⟩ := ex_succ h2_21
  obtain ⟨x23, xr23, rfl, h2_23⟩ := ex_succ h2_22
  obtain ⟨x24, xr24, rfl, h2_24⟩ := ex_succ h2_23
  obtain ⟨x25, xr25, rfl, h2_25⟩ := ex_succ h2_24
  obtain ⟨x26, xr26, rfl, h2_26⟩ := ex_succ h2_25
  obtain ⟨x27, xr27, rfl, h2_27⟩ := ex_succ h2_26
  obtain ⟨x28, xr28, rfl, h2_28⟩ := ex_succ h2_27
  obtain ⟨x29, xr29, rfl, h2_29⟩ := ex_succ h2_28
  obtain ⟨x30, xr30, rfl, h2_30⟩ := ex_succ h2_29
  obtain ⟨x31, xr31, rfl, h2_31⟩ := ex_succ h2_30
  obtain ⟨x32, xr32, rfl, h2_32⟩ := ex_succ h2_31
  obtain ⟨x33, xr33, rfl, h2_33⟩ := ex_succ h2_32
  obtain ⟨x34, xr34, rfl, h2_34⟩ := ex_succ h2_33
  obtain ⟨x35, xr35, rfl, h2_35⟩ := ex_succ h2_34
  obtain ⟨x36, xr36, rfl, h2_36⟩ := ex_succ h2_35
  obtain rfl := List.length_eq_zero_iff.mp h2_36
  kernel_rfl
theorem rest0 (σ : List (Option SV)) (o : List MO) (h1 : σ.length = 11) (h2 : o.length = 40) : isRt (m_law_2 ⟨none :: some (.m 0) :: some (.d (.list (L0.map .str))) :: σ, o⟩) = true := by
  obtain ⟨v0, vr0, rfl, h1_0⟩ := ex_succ h1
  obtain ⟨v1, vr1, rfl, h1_1⟩ := ex_succ h1_0
  obtain ⟨v2, vr2, rfl, h1_2⟩ := ex_succ h1_1
  obtain ⟨v3, vr3, rfl, h1_3⟩ := ex_succ h1_2
  obtain ⟨v4, vr4, rfl, h1_4⟩ := ex_succ h1_3
  obtain ⟨v5, vr5, rfl, h1_5⟩ := ex_succ h1_4
  obtain ⟨v6, vr6, rfl, h1_6⟩ := ex_succ h1_5
  obtain ⟨v7, vr7, rfl, h1_7⟩ := ex_succ h1_6
  obtain ⟨v8, vr8, rfl, h1_8⟩ := ex_succ h1_7
  obtain ⟨v9, vr9, rfl, h1_9⟩ := ex_succ h1_8
  obtain ⟨v10, vr10, rfl, h1_10⟩ := ex_succ h1_9
  obtain rfl := List.length_eq_zero_iff.mp h1_10
  obtain ⟨x0, xr0, rfl, h2_0⟩ := ex_succ h2
  obtain ⟨x1, xr1, rfl, h2_1⟩ := ex_succ h2_0
  obtain ⟨x2, xr2, rfl, h2_2⟩ := ex_succ h2_1
  obtain ⟨x3, xr3, rfl, h2_3⟩ := ex_succ h2_2
  obtain ⟨x4, xr4, rfl, h2_4⟩ := ex_succ h2_3
  obtain ⟨x5, xr5, rfl, h2_5⟩ := ex_succ h2_4
  obtain ⟨x6, xr6, rfl, h2_6⟩ := ex_succ h2_5
  obtain ⟨x7, xr7, rfl, h2_7⟩ := ex_succ h2_6
  obtain ⟨x8, xr8, rfl, h2_8⟩ := ex_succ h2_7
  obtain ⟨x9, xr9, rfl, h2_9⟩ := ex_succ h2_8
  obtain ⟨x10, xr10, rfl, h2_10⟩ := ex_succ h2_9
  obtain ⟨x11, xr11, rfl, h2_11⟩ := ex_succ h2_10
  obtain ⟨x12, xr12, rfl, h2_12⟩ := ex_succ h2_11
  obtain ⟨x13, xr13, rfl, h2_13⟩ := ex_succ h2_12
  obtain ⟨x14, xr14, rfl, h2_14⟩ := ex_succ h2_13
  obtain ⟨x15, xr15, rfl, h2_15⟩ := ex_succ h2_14
  obtain ⟨x16, xr16, rfl, h2_16⟩ := ex_succ h2_15
  obtain ⟨x17, xr17, rfl, h2_17⟩ := ex_succ h2_16
  obtain ⟨x18, xr18, rfl, h2_18⟩ := ex_succ h2_17
  obtain ⟨x19, xr19, rfl, h2_19⟩ := ex_succ h2_18
  obtain ⟨x20, xr20, rfl, h2_20⟩ := ex_succ h2_19
  obtain ⟨x21, xr21, rfl, h2_21⟩ := ex_succ h2_20
  obtain ⟨x22, xr22, rfl, h2_22⟩ := ex_succ h2_21
  obtain ⟨x23, xr23, rfl, h2_23⟩ := ex_succ h2_22
  obtain ⟨x24, xr24, rfl, h2_24⟩ := ex_succ h2_23
  obtain ⟨x25, xr25, rfl, h2_25⟩ := ex_succ h2_24
  obtain ⟨x26, xr26, rfl, h2_26⟩ := ex_succ h2_25
  obtain ⟨x27, xr27, rfl, h2_27⟩ := ex_succ h2_26
  obtain ⟨x28, xr28, rfl, h2_28⟩ := ex_succ h2_27
  obtain ⟨x29, xr29, rfl, h2_29⟩ := ex_succ h2_28
  obtain ⟨x30, xr30, rfl, h2_30⟩ := ex_succ h2_29
  obtain ⟨x31, xr31, rfl, h2_31⟩ := ex_succ h2_30
  obtain ⟨x32, xr32, rfl, h2_32⟩ := ex_succ h2_31
  obtain ⟨x33, xr33, rfl, h2_33⟩ := ex_succ h2_32
  obtain ⟨x34, xr34, rfl, h2_34⟩ := ex_succ h2_33
  obtain ⟨x35, xr35, rfl, h2_35⟩ := ex_succ h2_34
  obtain ⟨x36, xr36, rfl, h2_36⟩ := ex_succ h2_35
  obtain ⟨x37, xr37, rfl, h2_37⟩ := ex_succ h2_36
  obtain ⟨x38, xr38, rfl, h2_38⟩ := ex_succ h2_37
  obtain ⟨x39, xr39, rfl, h2_39⟩ := ex_succ h2_38
  obtain rfl := List.length_eq_zero_iff.mp h2_39
  kernel_rfl
theorem r0 (cs : List Int) (x l w : Int) : isRt (m_law_1 ⟨none :: some (.m 0) :: some (.d (.list (L0.map .str))) :: List.replicate 11 none, [fdO cs x l w]⟩) = true := by
  obtain ⟨σ, o, e, h1, h2⟩ := rows_ok (g := tg1) (b := tb1) (im := im1) (n := 11) (c := 3) (k0 := 1) (L := L0) (items := rows) rows_im (σ := List.replicate 11 none) (o := [fdO cs x l w]) List.length_replicate rfl fun i hi σ o h1 h2 => by
    rw [rows_len] at hi
    match i, hi with
    | 0, _ => exact r0_0 σ o h1 h2
    | 1, _ => exact r0_1 σ o h1 h2
    | 2, _ => exact r0_2 σ o h1 h2
    | 3, _ => exact r0_3 σ o h1 h2
    | 4, _ => exact r0_4 σ o h1 h2
    | 5, _ => exact r0_5 σ o h1 h2
    | 6, _ => exact r0_6 σ o h1 h2
    | 7, _ => exact r0_7 σ o h1 h2
    | 8, _ => exact r0_8 σ o h1 h2
    | 9, _ => exact r0_9 σ o h1 h2
    | 10, _ => exact r0_10 σ o h1 h2
    | 11, _ => exact r0_11 σ o h1 h2
    | 12, _ => exact r0_12 σ o h1 h2
    | k + 13, h => omega
  rw [rows_len] at h2
  have e2 : m_law_1 ⟨none :: some (.m 0) :: some (.d (.list (L0.map .str))) :: List.replicate 11 none, [fdO cs x l w]⟩ = m_law_2 ⟨none :: some (.m 0) :: some (.d (.list (L0.map .str))) :: σ, o⟩ := mSeq_nx e
  rw [e2]
  exact rest0 σ o h1 h2
end
end H52

namespace H52
noncomputable section
open PySem PySem.Spec PyProof.Rows L2 RZ AP
variable [Tbls]
theorem r1_0 (σ : List (Option SV)) (o : List MO) (h1 : σ.length = 11) (h2 : o.length = 1) : isTurn 11 4 L1 (turnM tg1 tb1 (rows.getD 0 .none) ⟨none :: some (.m 0) :: some (.d (.list (L1.map .str))) :: σ, o⟩) = true := by
  obtain ⟨v0, vr0, rfl, h1_0⟩ := ex_succ h1
  obtain ⟨v1, vr1, rfl, h1_1⟩ := ex_succ h1_0
  obtain ⟨v2, vr2, rfl, h1_2⟩ := ex_succ h1_1
  obtain ⟨v3, vr3, rfl, h1_3⟩ := ex_succ h1_2
  obtain ⟨v4, vr4, rfl, h1_4⟩ := ex_succ h1_3
  obtain ⟨v5, vr5, rfl, h1_5⟩ := ex_succ h1_4
  obtain ⟨v6, vr6, rfl, h1_6⟩ := ex_succ h1_5
  obtain ⟨v7, vr7, rfl, h1_7⟩ := ex_succ h1_6
  obtain ⟨v8, vr8, rfl, h1_8⟩ := ex_succ h1_7
  obtain ⟨v9, vr9, rfl, h1_9⟩ := ex_succ h1_8
  obtain ⟨v10, vr10, rfl, h1_10⟩ := ex_succ h1_9
  obtain rfl := List.length_eq_zero_iff.mp h1_10
  obtain ⟨x0, xr0, rfl, h2_0⟩ := ex_succ h2
  obtain rfl := List.length_eq_zero_iff.mp h2_0
  kernel_rfl
theorem r1_1 (σ : List (Option SV)) (o : List MO) (h1 : σ.length = 11) (h2 : o.length = 4) : isTurn 11 7 L1 (turnM tg1 tb1 (rows.getD 1 .none) ⟨none :: some (.m 0) :: some (.d (.list (L1.map .str))) :: σ, o⟩) = true := by
  obtain ⟨v0, vr0, rfl, h1_0⟩ := ex_succ h1
  obtain ⟨v1, vr1, rfl, h1_1⟩ := ex_succ h1_0
  obtain ⟨v2, vr2, rfl, h1_2⟩ := ex_succ h1_1
  obtain ⟨v3, vr3, rfl, h1_3⟩ := ex_succ h1_2
  obtain ⟨v4, vr4, rfl, h1_4⟩ := ex_succ h1_3
  obtain ⟨v5, vr5, rfl, h1_5⟩ := ex_succ h1_4
  obtain ⟨v6, vr6, rfl, h1_6⟩ := ex_succ h1_5
  obtain ⟨v7, vr7, rfl, h1_7⟩ := ex_succ h1_6
  obtain ⟨v8, vr8, rfl, h1_8⟩ := ex_succ h1_7
  obtain ⟨v9, vr9, rfl, h1_9⟩ := ex_succ h1_8
  obtain ⟨v10, vr10, rfl, h1_10⟩ := ex_succ h1_9
  obtain rfl := List.length_eq_zero_iff.mp h1_10
  obtain ⟨x0, xr0, rfl, h2_0⟩ := ex_succ h2
  obtain ⟨x1, xr1, rfl, h2_1⟩ := ex_succ h2_0
  obtain ⟨x2, xr2, rfl, h2_2⟩ := ex_succ h2_1
  obtain ⟨x3, xr3, rfl, h2_3⟩ := ex_succ h2_2
  obtain rfl := List.length_eq_zero_iff.mp h2_3
  kernel_rfl
theorem r1_2 (σ : List (Option SV)) (o : List MO) (h1 : σ.length = 11) (h2 : o.length = 7) : isTurn 11 10 L1 (turnM tg1 tb1 (rows.getD 2 .none) ⟨none :: some (.m 0) :: some (.d (.list (L1.map .str))) :: σ, o⟩) = true := by
  obtain ⟨v0, vr0, rfl, h1_0⟩ := ex_succ h1
  obtain ⟨v1, vr1, rfl, h1_1⟩ := ex_succ h1_0
  obtain ⟨v2, vr2, rfl, h1_2⟩ := ex_succ h1_1
  obtain ⟨v3, vr3, rfl, h1_3⟩ := ex_succ h1_2
  obtain ⟨v4, vr4, rfl, h1_4⟩ := ex_succ h1_3
  obtain ⟨v5, vr5, rfl, h1_5⟩ := ex_succ h1_4
  obtain ⟨v6, vr6, rfl, h1_6⟩ := ex_succ h1_5
  obtain ⟨v7, vr7, rfl, h1_7⟩ := ex_succ h1_6
  obtain ⟨v8, vr8, rfl, h1_8⟩ := ex_succ h1_7
  obtain ⟨v9, vr9, rfl, h1_9⟩ := ex_succ h1_8
  obtain ⟨v10, vr10, rfl, h1_10⟩ := ex_succ h1_9
  obtain rfl := List.length_eq_zero_iff.mp h1_10
  obtain ⟨x0, xr0, rfl, h2_0⟩ := ex_succ h2
  obtain ⟨x1, xr1, rfl, h2_1⟩ := ex_succ h2_0
  obtain ⟨x2, xr2, rfl, h2_2⟩ := ex_succ h2_1
  obtain ⟨x3, xr3, rfl, h2_3⟩ := ex_succ h2_2
  obtain ⟨x4, xr4, rfl, h2_4⟩ := ex_succ h2_3
  obtain ⟨x5, xr5, rfl, h2_5⟩ := ex_succ h2_4
  obtain ⟨x6, xr6, rfl, h2_6⟩ := ex_succ h2_5
  obtain rfl := List.length_eq_zero_iff.mp h2_6
  kernel_rfl
theorem r1_3 (σ : List (Option SV)) (o : List MO) (h1 : σ.length = 11) (h2 : o.length = 10) : isTurn 11 13 L1 (turnM tg1 tb1 (rows.getD 3 .none) ⟨none :: some (.m 0) :: some (.d (.list (L1.map .str))) :: σ, o⟩) = true := by
  obtain ⟨v0, vr0, rfl, h1_0⟩ := ex_succ h1
  obtain ⟨v1, vr1, rfl, h1_1⟩ := ex_succ h1_0
  obtain ⟨v2, vr2, rfl, h1_2⟩ := ex_succ h1_1
  obtain ⟨v3, vr3, rfl, h1_3⟩ := ex_succ h1_2
  obtain ⟨v4, vr4, rfl, h1_4⟩ := ex_succ h1_3
  obtain ⟨v5, vr5, rfl, h1_5⟩ := ex_succ h1_4
  obtain ⟨v6, vr6, rfl, h1_6⟩ := ex_succ h1_5
  obtain ⟨v7, vr7, rfl, h1_7⟩ := ex_succ h1_6
  obtain ⟨v8, vr8, rfl, h1_8⟩ := ex_succ h1_7
  obtain ⟨v9, vr9, rfl, h1_9⟩ := ex_succ h1_8
  obtain ⟨v10, vr10, rfl, h1_10⟩ := ex_succ h1_9
  obtain rfl := List.length_eq_zero_iff.mp h1_10
  obtain ⟨x0, xr0, rfl, h2_0⟩ := ex_succ h2
  obtain ⟨x1, xr1, rfl, h2_1⟩ := ex_succ h2_0
  obtain ⟨x2, xr2, rfl, h2_2⟩ := ex_succ h2_1
  obtain ⟨x3, xr3, rfl, h2_3⟩ := ex_succ h2_2
  obtain ⟨x4, xr4, rfl, h2_4⟩ := ex_succ h2_3
  obtain ⟨x5, xr5, rfl, h2_5⟩ := ex_succ h2_4
  obtain ⟨x6, xr6, rfl, h2_6⟩ := ex_succ h2_5
  obtain ⟨x7, xr7, rfl, h2_7⟩ := ex_succ h2_6
  obtain ⟨x8, xr8, rfl, h2_8⟩ := ex_succ h2_7
  obtain ⟨x9, xr9, rfl, h2_9⟩ := ex_succ h2_8
  obtain rfl := List.length_eq_zero_iff.mp h2_9
  kernel_rfl
theorem r1_4 (σ : List (Option SV)) (o : List MO) (h1 : σ.length = 11) (h2 : o.length = 13) : isTurn 11 16 L1 (turnM tg1 tb1 (rows.getD 4 .none) ⟨none :: some (.m 0) :: some (.d (.list (L1.map .str))) :: σ, o⟩) = true := by
  obtain ⟨v0, vr0, rfl, h1_0⟩ := ex_succ h1
  obtain ⟨v1, vr1, rfl, h1_1⟩ := ex_succ h1_0
  obtain ⟨v2, vr2, rfl, h1_2⟩ := ex_succ h1_1
  obtain ⟨v3, vr3, rfl, h1_3⟩ := ex_succ h1_2
  obtain ⟨v4, vr4, rfl, h1_4⟩ := ex_succ h1_3
  obtain ⟨v5, vr5, rfl, h1_5⟩ := ex_succ h1_4
  obtain ⟨v6, vr6, rfl, h1_6⟩ := ex_succ h1_5
  obtain ⟨v7, vr7, rfl, h1_7⟩ := ex_succ h1_6
  obtain ⟨v8, vr8, rfl, h1_8⟩ := ex_succ h1_7
  obtain ⟨v9, vr9, rfl, h1_9⟩ := ex_succ h1_8
  obtain ⟨v10, vr10, rfl, h1_10⟩ := ex_succ h1_9
  obtain rfl := List.length_eq_zero_iff.mp h1_10
  obtain ⟨x0, xr0, rfl, h2_0⟩ := ex_succ h2
  obtain ⟨x1, xr1, rfl, h2_1⟩ := ex_succ h2_0
  obtain ⟨x2, xr2, rfl, h2_2⟩ := ex_succ h2_1
  obtain ⟨x3, xr3, rfl, h2_3⟩ := ex_succ h2_2
  obtain ⟨x4, xr4, rfl, h2_4⟩ := ex_succ h2_3
  obtain ⟨x5, xr5, rfl, h2_5⟩ := ex_succ h2_4
  obtain ⟨x6, xr6, rfl, h2_6⟩ := ex_succ h2_5
  obtain ⟨x7, xr7, rfl, h2_7⟩ := ex_succ h2_6
  obtain ⟨x8, xr8, rfl, h2_8⟩ := ex_succ h2_7
  obtain ⟨x9, xr9, rfl, h2_9⟩ := ex_succ h2_8
  obtain ⟨x10, xr10, rfl, h2_10⟩ := ex_succ h2_9
  obtain ⟨x11, xr11, rfl, h2_11⟩ := ex_succ h2_10
  obtain ⟨x12, xr12, rfl, h2_12⟩ := ex_succ h2_11
  obtain rfl := List.length_eq_zero_iff.mp h2_12
  kernel_rfl
theorem r1_5 (σ : List (Option SV)) (o : List MO) (h1 : σ.length = 11) (h2 : o.length = 16) : isTurn 11 19 L1 (turnM tg1 tb1 (rows.getD 5 .none) ⟨none :: some (.m 0) :: some (.d (.list (L1.map .str))) :: σ, o⟩) = true := by
  obtain ⟨v0, vr0, rfl, h1_0⟩ := ex_succ h1
  obtain ⟨v1, vr1, rfl, h1_1⟩ := ex_succ h1_0
  obtain ⟨v2, vr2, rfl, h1_2⟩ := ex_succ h1_1
  obtain ⟨v3, vr3, rfl, h1_3⟩ := ex_succ h1_2
  obtain ⟨v4, vr4, rfl, h1_4⟩ := ex_succ h1_3
  obtain ⟨v5, vr5, rfl, h1_5⟩ := ex_succ h1_4
  obtain ⟨v6, vr6, rfl, h1_6⟩ := ex_succ h1_5
  obtain ⟨v7, vr7, rfl, h1_7⟩ := ex_succ h1_6
  obtain ⟨v8, vr8, rfl, h1_8⟩ := ex_succ h1_7
  obtain ⟨v9, vr9, rfl, h1_9⟩ := ex_succ h1_8
  obtain ⟨v10, vr10, rfl, h1_10⟩ := ex_succ h1_9
  obtain rfl := List.length_eq_zero_iff.mp h1_10
  obtain ⟨x0, xr0, rfl, h2_0⟩ := ex_succ h2
  obtain ⟨x1, xr1, rfl, h2_1⟩ := ex_succ h2_0
  obtain ⟨x2, xr2, rfl, h2_2⟩ := ex_succ h2_1
  obtain ⟨x3, xr3, rfl, h2_3⟩ := ex_succ h2_2
  obtain ⟨x4, xr4, rfl, h2_4⟩ := ex_succ h2_3
  obtain ⟨x5, xr5, rfl, h2_5⟩ := ex_succ h2_4
  obtain ⟨x6, xr6, rfl, h2_6⟩ := ex_succ h2_5
  obtain ⟨x7, xr7, rfl, h2_7⟩ := ex_succ h2_6
  obtain ⟨x8, xr8, rfl, h2_8⟩ := ex_succ h2_7
  obtain ⟨x9, xr9, rfl, h2_9⟩ := ex_succ h2_8
  obtain ⟨x10, xr10, rfl, h2_10⟩ := ex_succ h2_9
  obtain ⟨x11, xr11, rfl, h2_11⟩ := ex_succ h2_10
  obtain ⟨x12, xr12, rfl, h2_12⟩ := ex_succ h2_11
  obtain ⟨x13, xr13, rfl, h2_13⟩ := ex_succ h2_12
  obtain ⟨x14, xr14, rfl, h2_14⟩ := ex_succ h2_13
  obtain ⟨x15, xr15, rfl, h2_15⟩ := ex_succ h2_14
  obtain rfl := List.length_eq_zero_iff.mp h2_15
  kernel_rfl
theorem r1_6 (σ : List (Option SV)) (o : List MO) (h1 : σ.length = 11) (h2 : o.length = 19) : isTurn 11 22 L1 (turnM tg1 tb1 (rows.getD 6 .none) ⟨none :: some (.m 0) :: some (.d (.list (L1.map .str))) :: σ, o⟩) = true := by
  obtain ⟨v0, vr0, rfl, h1_0⟩ := ex_succ h1
  obtain ⟨v1, vr1, rfl, h1_1⟩ := ex_succ h1_0
  obtain ⟨v2, vr2, rfl, h1_2⟩ := ex_succ h1_1
  obtain ⟨v3, vr3, rfl, h1_3⟩ := ex_succ h1_2
  obtain ⟨v4, vr4, rfl, h1_4⟩ := ex_succ h1_3
  obtain ⟨v5, vr5, rfl, h1_5⟩ := ex_succ h1_4
  obtain ⟨v6, vr6, rfl, h1_6⟩ := ex_succ h1_5
  obtain ⟨v7, vr7, rfl, h1_7⟩ := ex_succ h1_6
  obtain ⟨v8, vr8, rfl, h1_8⟩ := ex_succ h1_7
  obtain ⟨v9, vr9, rfl, h1_9⟩ := ex_succ h1_8
  obtain ⟨v10, vr10, rfl, h1_10⟩ := ex_succ h1_9
  obtain rfl := List.length_eq_zero_iff.mp h1_10
  obtain ⟨x0, xr0, rfl, h2_0⟩ := ex_succ h2
  obtain ⟨x1, xr1, rfl, h2_1⟩ := ex_succ h2_0
  obtain ⟨x2, xr2, rfl, h2_2⟩ := ex_succ h2_1
  obtain ⟨x3, xr3, rfl, h2_3⟩ := ex_succ h2_2
  obtain ⟨x4, xr4, rfl, h2_4⟩ := ex_succ h2_3
  obtain ⟨x5, xr5, rfl, h2_5⟩ := ex_succ h2_4
  obtain ⟨x6, xr6, rfl, h2_6⟩ := ex_succ h2_5
  obtain ⟨x7, xr7, rfl, h2_7⟩ := ex_succ h2_6
  obtain ⟨x8, xr8, rfl, h2_8⟩ := ex_succ h2_7
  obtain ⟨x9, xr9, rfl, h2_9⟩ := ex_succ h2_8
  obtain ⟨x10, xr10, rfl, h2_10⟩ := ex_succ h2_9
  obtain ⟨x11, xr11, rfl, h2_11⟩ := ex_succ h2_10
  obtain ⟨x12, xr12, rfl, h2_12⟩ := ex_succ h2_11
  obtain ⟨x13, xr13, rfl, h2_13⟩ := ex_succ h2_12
  obtain ⟨x14, xr14, rfl, h2_14⟩ := ex_succ h2_13
  obtain ⟨x15, xr15, rfl, h2_15⟩ := ex_succ h2_14
  obtain ⟨x16, xr16, rfl, h2_16⟩ := ex_succ h2_15
  obtain ⟨x17, xr17, rfl, h2_17⟩ := ex_succ h2_16
  obtain ⟨x18, xr18, rfl, h2_18⟩ := ex_succ h2_17
  obtain rfl := List.length_eq_zero_iff.mp h2_18
  kernel_rfl
theorem r1_7 (σ : List (Option SV)) (o : List MO) (h1 : σ.length = 11) (h2 : o.length = 22) : isTurn 11 25 L1 (turnM tg1 tb1 (rows.getD 7 .none) ⟨none :: some (.m 0) :: some (.d (.list (L1.map .str))) :: σ, o⟩) = true := by
  obtain ⟨v0, vr0, rfl, h1_0⟩ := ex_succ h1
  obtain ⟨v1, vr1, rfl, h1_1⟩ := ex_succ h1_0
  obtain ⟨v2, vr2, rfl, h1_2⟩ := ex_succ h1_1
  obtain ⟨v3, vr3, rfl, h1_3⟩ := ex_succ h1_2
  obtain ⟨v4, vr4, rfl, h1_4⟩ := ex_succ h1_3
  obtain ⟨v5, vr5, rfl, h1_5⟩ := ex_succ h1_4
  obtain ⟨v6, vr6, rfl, h1_6⟩ := ex_succ h1_5
  obtain ⟨v7, vr7, rfl, h1_7⟩ := ex_succ h1_6
  obtain ⟨v8, vr8, rfl, h1_8⟩ := ex_succ h1_7
  obtain ⟨v9, vr9, rfl, h1_9⟩ := ex_succ h1_8
  obtain ⟨v10, vr10, rfl, h1_10⟩ := ex_succ h1_9
  obtain rfl := List.length_eq_zero_iff.mp h1_10
  obtain ⟨x0, xr0, rfl, h2_0⟩ := ex_succ h2
  obtain ⟨x1, xr1, rfl, h2_1⟩ := ex_succ h2_0
  obtain ⟨x2, xr2, rfl, h2_2⟩ := ex_succ h2_1
  obtain ⟨x3, xr3, rfl, h2_3⟩ := ex_succ h2_2
  obtain ⟨x4, xr4, rfl, h2_4⟩ := ex_succ h2_3
  obtain ⟨x5, xr5, rfl, h2_5⟩ := ex_succ h2_4
  obtain ⟨x6, xr6, rfl, h2_6⟩ := ex_succ h2_5
  obtain ⟨x7, xr7, rfl, h2_7⟩ := ex_succ h2_6
  obtain ⟨x8, xr8, rfl, h2_8⟩ := ex_succ h2_7
  obtain ⟨x9, xr9, rfl, h2_9⟩ := ex_succ h2_8
  obtain ⟨x10, xr10, rfl, h2_10⟩ := ex_succ h2_9
  obtain ⟨x11, xr11, rfl, h2_11⟩ := ex_succ h2_10
  obtain ⟨x12, xr12, rfl, h2_12⟩ := ex_succ h2_11
  obtain ⟨x13, xr13, rfl, h2_13⟩ := ex_succ h2_12
  obtain ⟨x14, xr14, rfl, h2_14⟩ := ex_succ h2_13
  obtain ⟨x15, xr15, rfl, h2_15⟩ := ex_succ h2_14
  obtain ⟨x16, xr16, rfl, h2_16⟩ := ex_succ h2_15
  obtain ⟨x17, xr17, rfl, h2_17⟩ := ex_succ h2_16
  obtain ⟨x18, xr18, rfl, h2_18⟩ := ex_succ h2_17
  obtain ⟨x19, xr19, rfl, h2_19⟩ := ex_succ h2_18
  obtain ⟨x20, xr20, rfl, h2_20⟩ := ex_succ h2_19
  obtain ⟨x21, xr21, rfl, h2_21⟩ := ex_succ h2_20
  obtain rfl := List.length_eq_zero_iff.mp h2_21
  kernel_rfl
theorem r1_8 (σ : List (Option SV)) (o : List MO) (h1 : σ.length = 11) (h2 : o.length = 25) : isTurn 11 28 L1 (turnM tg1 tb1 (rows.getD 8 .none) ⟨none :: some (.m 0) :: some (.d (.list (L1.map .str))) :: σ, o⟩) = true := by
  obtain ⟨v0, vr0, rfl, h1_0⟩ := ex_succ h1
  obtain ⟨v1, vr1, rfl, h1_1⟩ := ex_succ h1_0
  obtain ⟨v2, vr2, rfl, h1_2⟩ := ex_succ h1_1
  obtain ⟨v3, vr3, rfl, h1_3⟩ := ex_succ h1_2
  obtain ⟨v4, vr4, rfl, h1_4⟩ := ex_succ h1_3
  obtain ⟨v5, vr5, rfl, h1_5⟩ := ex_succ h1_4
  obtain ⟨v6, vr6, rfl, h1_6⟩ := ex_succ h1_5
  obtain ⟨v7, vr7, rfl, h1_7⟩ := ex_succ h1_6
  obtain ⟨v8, vr8, rfl, h1_8⟩ := ex_succ h1_7
  obtain ⟨v9, vr9, rfl, h1_9⟩ := ex_succ h1_8
  obtain ⟨v10, vr10, rfl, h1_10⟩ := ex_succ h1_9
  obtain rfl := List.length_eq_zero_iff.mp h1_10
  obtain ⟨x0, xr0, rfl, h2_0⟩ := ex_succ h2
  obtain ⟨x1, xr1, rfl, h2_1⟩ := ex_succ h2_0
  obtain ⟨x2, xr2, rfl, h2_2⟩ := ex_succ h2_1
  obtain ⟨x3, xr3, rfl, h2_3⟩ := ex_succ h2_2
  obtain ⟨x4, xr4, rfl, h2_4⟩ := ex_succ h2_3
  obtain ⟨x5, xr5, rfl, h2_5⟩ := ex_succ h2_4
  obtain ⟨x6, xr6, rfl, h2_6⟩ := ex_succ h2_5
  obtain ⟨x7, xr7, rfl, h2_7⟩ := ex_succ h2_6
  obtain ⟨x8, xr8, rfl, h2_8⟩ := ex_succ h2_7
  obtain ⟨x9, xr9, rfl, h2_9⟩ := ex_succ h2_8
  obtain ⟨x10, xr10, rfl, h2_10⟩ := ex_succ h2_9
  obtain ⟨x11, xr11, rfl, h2_11⟩ := ex_succ h2_10
  obtain ⟨x12, xr12, rfl, h2_12⟩ := ex_succ h2_11
  obtain ⟨x13, xr13, rfl, h2_13⟩ := ex_succ h2_12
  obtain ⟨x14, xr14, rfl, h2_14⟩ := ex_succ h2_13
  obtain ⟨x15, xr15, rfl, h2_15⟩ := ex_succ h2_14
  obtain ⟨x16, xr16, rfl, h2_16⟩ := ex_succ h2_15
  obtain ⟨x17, xr17, rfl, h2_17⟩ := ex_succ h2_16
  obtain ⟨x18, xr18, rfl, h2_18⟩ := ex_succ h2_17
  obtain ⟨x19, xr19, rfl, h2_19⟩ := ex_succ h2_18
  obtain ⟨x20, xr20, rfl, h2_20⟩ := ex_succ h2_19
  obtain ⟨x21, xr21, rfl, h2_21⟩ := ex_succ h2_20
  obtain ⟨x22, xr22, rfl, h2_22⟩ := ex_succ h2_21
  obtain ⟨x23, xr23, rfl, h2_23⟩ := ex_succ h2_22
  obtain ⟨x24, xr24, rfl, h2_24⟩ := ex_succ h2_23
  obtain rfl := List.length_eq_zero_iff.mp h2_24
  kernel_rfl
theorem r1_9 (σ : List (Option SV)) (o : List MO) (h1 : σ.length = 11) (h2 : o.length = 28) : isTurn 11 31 L1 (turnM tg1 tb1 (rows.getD 9 .none) ⟨none :: some (.m 0) :: some (.d (.list (L1.map .str))) :: σ, o⟩) = true := by
  obtain ⟨v0, vr0, rfl, h1_0⟩ := ex_succ h1
  obtain ⟨v1, vr1, rfl, h1_1⟩ := ex_succ h1_0
  obtain ⟨v2, vr2, rfl, h1_2⟩ := ex_succ h1_1
  obtain ⟨v3, vr3, rfl, h1_3⟩ := ex_succ h1_2
  obtain ⟨v4, vr4, rfl, h1_4⟩ := ex_succ h1_3
  obtain ⟨v5, vr5, rfl, h1_5⟩ := ex_succ h1_4
  obtain ⟨v6, vr6, rfl, h1_6⟩ := ex_succ h1_5
  obtain ⟨v7, vr7, rfl, h1_7⟩ := ex_succ h1_6
  obtain ⟨v8, vr8, rfl, h1_8⟩ := ex_succ h1_7
  obtain ⟨v9, vr9, rfl, h1_9⟩ := ex_succ h1_8
  obtain ⟨v10, vr10, rfl, h1_10⟩ := ex_succ h1_9
  obtain rfl := List.length_eq_zero_iff.mp h1_10
  obtain ⟨x0, xr0, rfl, h2_0⟩ := ex_succ h2
  obtain ⟨x1, xr1, rfl, h2_1⟩ := ex_succ h2_0
  obtain ⟨x2, xr2, rfl, h2_2⟩ := ex_succ h2_1
  obtain ⟨x3, xr3, rfl, h2_3⟩ := ex_succ h2_2
  obtain ⟨x4, xr4, rfl, h2_4⟩ := ex_succ h2_3
  obtain ⟨x5, xr5, rfl, h2_5⟩ := ex_succ h2_4
  obtain ⟨x6, xr6, rfl, h2_6⟩ := ex_succ h2_5
  obtain ⟨x7, xr7, rfl, h2_7⟩ := ex_succ h2_6
  obtain ⟨x8, xr8, rfl, h2_8⟩ := ex_succ h2_7
  obtain ⟨x9, xr9, rfl, h2_9⟩ := ex_succ h2_8
  obtain ⟨x10, xr10, rfl, h2_10⟩ := ex_succ h2_9
  obtain ⟨x11, xr11, rfl, h2_11⟩ := ex_succ h2_10
  obtain ⟨x12, xr12, rfl, h2_12⟩ := ex_succ h2_11
  obtain ⟨x13, xr13, rfl, h2_13⟩ := ex_succ h2_12
  obtain ⟨x14, xr14, rfl, h2_14⟩ := ex_succ h2_13
  obtain ⟨x15, xr15, rfl, h2_15⟩ := ex_succ h2_14
  obtain ⟨x16, xr16, rfl, h2_16⟩ := ex_succ h2_15
  obtain ⟨x17, xr17, rfl, h2_17⟩ := ex_succ h2_16
  obtain ⟨x18, xr18, rfl, h2_18⟩ := ex_succ h2_17
  obtain ⟨x19, xr19, rfl, h2_19⟩ := ex_succ h2_18
  obtain ⟨x20, xr20, rfl, h2_20⟩ := ex_succ h2_19
  obtain ⟨x21, xr21, rfl, h2_21⟩ := ex_succ h2_20
  obtain ⟨x22, xr22, rfl, h2_22⟩ := ex_succ h2_21
  obtain ⟨x23, xr23, rfl, h2_23⟩ := ex_succ h2_22
  obtain ⟨x24, xr24, rfl, h2_24⟩ := ex_succ h2_23
  obtain ⟨x25, xr25, rfl, h2_25⟩ := ex_succ h2_24
  obtain ⟨x26, xr26, rfl, h2_26⟩ := ex_succ h2_25
  obtain ⟨x27, xr27, rfl, h2_27⟩ := ex_succ h2_26
  obtain rfl := List.length_eq_zero_iff.mp h2_27
  kernel_rfl
theorem r1_10 (σ : List (Option SV)) (o : List MO) (h1 : σ.length = 11) (h2 : o.length = 31) : isTurn 11 34 L1 (turnM tg1 tb1 (rows.getD 10 .none) ⟨none :: some (.m 0) :: some (.d (.list (L1.map .str))) :: σ, o⟩) = true := by
  obtain ⟨v0, vr0, rfl, h1_0⟩ := ex_succ h1
  obtain ⟨v1, vr1, rfl, h1_1⟩ := ex_succ h1_0
  obtain ⟨v2, vr2, rfl, h1_2⟩ := ex_succ h1_1
  obtain ⟨v3, vr3, rfl, h1_3⟩ := ex_succ h1_2
  obtain ⟨v4, vr4, rfl, h1_4⟩ := ex_succ h1_3
  obtain ⟨v5, vr5, rfl, h1_5⟩ := ex_succ h1_4
  obtain ⟨v6, vr6, rfl, h1_6⟩ := ex_succ h1_5
  obtain ⟨v7, vr7, rfl, h1_7⟩ := ex_succ h1_6
  obtain ⟨v8, vr8, rfl, h1_8⟩ := ex_succ h1_7
  obtain ⟨v9, vr9, rfl, h1_9⟩ := ex_succ h1_8
  obtain ⟨v10, vr10, rfl, h1_10⟩ := ex_succ h1_9
  obtain rfl := List.length_eq_zero_iff.mp h1_10
  obtain ⟨x0, xr0, rfl, h2_0⟩ := ex_succ h2
  obtain ⟨x1, xr1, rfl, h2_1⟩ := ex_succ h2_0
  obtain ⟨x2, xr2, rfl, h2_2⟩ := ex_succ h2_1
  obtain ⟨x3, xr3, rfl, h2_3⟩ := ex_succ h2_2
  obtain ⟨x4, xr4, rfl, h2_4⟩ := ex_succ h2_3
  obtain ⟨x5, xr5, rfl, h2_5⟩ := ex_succ h2_4
  obtain ⟨x6, xr6, rfl, h2_6⟩ := ex_succ h2_5
  obtain ⟨x7, xr7, rfl, h2_7⟩ := ex_succ h2_6
  obtain ⟨x8, xr8, rfl, h2_8⟩ := ex_succ h2_7
  obtain ⟨x9, xr9, rfl, h2_9⟩ := ex_succ h2_8
  obtain ⟨x10, xr10, rfl, h2_10⟩ := ex_succ h2_9
  obtain ⟨x11, xr11, rfl, h2_11⟩ := ex_succ h2_10
  obtain ⟨x12, xr12, rfl, h2_12⟩ := ex_succ h2_11
  obtain ⟨x13, xr13, rfl, h2_13⟩ := ex_succ h2_12
  obtain ⟨x14, xr14, rfl, h2_14⟩ := ex_succ h2_13
  obtain ⟨x15, xr15, rfl, h2_15⟩ := ex_succ h2_14
  obtain ⟨x16, xr16, rfl, h2_16⟩ := ex_succ h2_15
  obtain ⟨x17, xr17, rfl, h2_17⟩ := ex_succ h2_16
  obtain ⟨x18, xr18, rfl, h2_18⟩ := ex_succ h2_17
  obtain ⟨x19, xr19, rfl, h2_19⟩ := ex_succ h2_18
  obtain ⟨x20, xr20, rfl, h2_20⟩ := ex_succ h2_19
  obtain ⟨x21, xr21, rfl, h2_21⟩ := ex_succ h2_20
  obtain ⟨x22, xr22, rfl, h2_22⟩ := ex_succ h2_21
  obtain ⟨x23, xr23, rfl, h2_23⟩ := ex_succ h2_22
  obtain ⟨x24, xr24, rfl, h2_24⟩ := ex_succ h2_23
  obtain ⟨x25, xr25, rfl, h2_25⟩ := ex_succ h2_24
  obtain ⟨x26, xr26, rfl, h2_26⟩ := ex_succ h2_25
  obtain ⟨x27, xr27, rfl, h2_27⟩ := ex_succ h2_26
  obtain ⟨x28, xr28, rfl, h2_28⟩ := ex_succ h2_27
  obtain ⟨x29, xr29, rfl, h2_29⟩ := ex_succ h2_28
  obtain ⟨x30, xr30, rfl, h2_30⟩ := ex_succ h2_29
  obtain rfl := List.length_eq_zero_iff.mp h2_30
  kernel_rfl
theorem r1_11 (σ : List (Option SV)) (o : List MO) (h1 : σ.length = 11) (h2 : o.length = 34) : isTurn 11 37 L1 (turnM tg1 tb1 (rows.getD 11 .none) ⟨none :: some (.m 0) :: some (.d (.list (L1.map .str))) :: σ, o⟩) = true := by
  obtain ⟨v0, vr0, rfl, h1_0⟩ := ex_succ h1
  obtain ⟨v1, vr1, rfl, h1_1⟩ := ex_succ h1_0
  obtain ⟨v2, vr2, rfl, h1_2⟩ := ex_succ h1_1
  obtain ⟨v3, vr3, rfl, h1_3⟩ := ex_succ h1_2
  obtain ⟨v4, vr4, rfl, h1_4⟩ := ex_succ h1_3
  obtain ⟨v5, vr5, rfl, h1_5⟩ := ex_succ h1_4
  obtain ⟨v6, vr6, rfl, h1_6⟩ := ex_succ h1_5
  obtain ⟨v7, vr7, rfl, h1_7⟩ := ex_succ h1_6
  obtain ⟨v8, vr8, rfl, h1_8⟩ := ex_succ h1_7
  obtain ⟨v9, vr9, rfl, h1_9⟩ := ex_succ h1_8
  obtain ⟨v10, vr10, rfl, h1_10⟩ := ex_succ h1_9
  obtain rfl := List.length_eq_zero_iff.mp h1_10
  obtain ⟨x0, xr0, rfl, h2_0⟩ := ex_succ h2
  obtain ⟨x1, xr1, rfl, h2_1⟩ := ex_succ h2_0
  obtain ⟨x2, xr2, rfl, h2_2⟩ := ex_succ h2_1
  obtain ⟨x3, xr3, rfl, h2_3⟩ := ex_succ h2_2
  obtain ⟨x4, xr4, rfl, h2_4⟩ := ex_succ h2_3
  obtain ⟨x5, xr5, rfl, h2_5⟩ := ex_succ h2_4
  obtain ⟨x6, xr6, rfl, h2_6⟩ := ex_succ h2_5
  obtain ⟨x7, xr7, rfl, h2_7⟩ := ex_succ h2_6
  obtain ⟨x8, xr8, rfl, h2_8⟩ := ex_succ h2_7
  obtain ⟨x9, xr9, rfl, h2_9⟩ := ex_succ h2_8
  obtain ⟨x10, xr10, rfl, h2_10⟩ := ex_succ h2_9
  obtain ⟨x11, xr11, rfl, h2_11⟩ := ex_succ h2_10
  obtain ⟨x12, xr12, rfl, h2_12⟩ := ex_succ h2_11
  obtain ⟨x13, xr13, rfl, h2_13⟩ := ex_succ h2_12
  obtain ⟨x14, xr14, rfl, h2_14⟩ := ex_succ h2_13
  obtain ⟨x15, xr15, rfl, h2_15⟩ := ex_succ h2_14
  obtain ⟨x16, xr16, rfl, h2_16⟩ := ex_succ h2_15
  obtain ⟨x17, xr17, rfl, h2_17⟩ := ex_succ h2_16
  obtain ⟨x18, xr18, rfl, h2_18⟩ := ex_succ h2_17
  obtain ⟨x19, xr19, rfl, h2_19⟩ := ex_succ h2_18
  obtain ⟨x20, xr20, rfl, h2_20⟩ := ex_succ h2_19
  obtain ⟨x21, xr21, rfl, h2_21⟩ := ex_succ h2_20
  obtain ⟨x22, xr22, rfl, h2_22⟩ := ex_succ h2_21
  obtain ⟨x23, xr23, rfl, h2_23⟩ := ex_succ h2_22
  obtain ⟨x24, xr24, rfl, h2_24⟩ := ex_succ h2_23
  obtain ⟨x25, xr25, rfl, h2_25⟩ := ex_succ h2_24
  obtain ⟨x26, xr26, rfl, h2_26⟩ := ex_succ h2_25
  obtain ⟨x27, xr27, rfl, h2_27⟩ := ex_succ h2_26
  obtain ⟨x28, xr28, rfl, h2_28⟩ := ex_succ h2_27
  obtain ⟨x29, xr29, rfl, h2_29⟩ := ex_succ h2_28
  obtain ⟨x30, xr30, rfl, h2_30⟩ := ex_succ h2_29
  obtain ⟨x31, xr31, rfl, h2_31⟩ := ex_succ h2_30
  obtain ⟨x32, xr32, rfl, h2_32⟩ := ex_succ h2_31
  obtain ⟨x33, xr33, rfl, h2_33⟩ := ex_succ h2_32
  obtain rfl := List.length_eq_zero_iff.mp h2_33
  kernel_rfl
theorem r1_12 (σ : List (Option SV)) (o : List MO) (h1 : σ.length = 11) (h2 : o.length = 37) : isTurn 11 40 L1 (turnM tg1 tb1 (rows.getD 12 .none) ⟨none :: some (.m 0) :: some (.d (.list (L1.map .str))) :: σ, o⟩) = true := by
  obtain ⟨v0, vr0, rfl, h1_0⟩ := ex_succ h1
  obtain ⟨v1, vr1, rfl, h1_1⟩ := ex_succ h1_0
  obtain ⟨v2, vr2, rfl, h1_2⟩ := ex_succ h1_1
  obtain ⟨v3, vr3, rfl, h1_3⟩ := ex_succ h1_2
  obtain ⟨v4, vr4, rfl, h1_4⟩ := ex_succ h1_3
  obtain ⟨v5, vr5, rfl, h1_5⟩ := ex_succ h1_4
  obtain ⟨v6, vr6, rfl, h1_6⟩ := ex_succ h1_5
  obtain ⟨v7, vr7, rfl, h1_7⟩ := ex_succ h1_6
  obtain ⟨v8, vr8, rfl, h1_8⟩ := ex_succ h1_7
  obtain ⟨v9, vr9, rfl, h1_9⟩ := ex_succ h1_8
  obtain ⟨v10, vr10, rfl, h1_10⟩ := ex_succ h1_9
  obtain rfl := List.length_eq_zero_iff.mp h1_10
  obtain ⟨x0, xr0, rfl, h2_0⟩ := ex_succ h2
  obtain ⟨x1, xr1, rfl, h2_1⟩ := ex_succ h2_0
  obtain ⟨x2, xr2, rfl, h2_2⟩ := ex_succ h2_1
  obtain ⟨x3, xr3, rfl, h2_3⟩ := ex_succ h2_2
  obtain ⟨x4, xr4, rfl, h2_4⟩ := ex_succ h2_3
  obtain ⟨x5, xr5, rfl, h2_5⟩ := ex_succ h2_4
  obtain ⟨x6, xr6, rfl, h2_6⟩ := ex_succ h2_5
  obtain ⟨x7, xr7, rfl, h2_7⟩ := ex_succ h2_6
  obtain ⟨x8, xr8, rfl, h2_8⟩ := ex_succ h2_7
  obtain ⟨x9, xr9, rfl, h2_9⟩ := ex_succ h2_8
  obtain ⟨x10, xr10, rfl, h2_10⟩ := ex_succ h2_9
  obtain ⟨x11, xr11, rfl, h2_11⟩ := ex_succ h2_10
  obtain ⟨x12, xr12, rfl, h2_12⟩ := ex_succ h2_11
  obtain ⟨x13, xr13, rfl, h2_13⟩ := ex_succ h2_12
  obtain ⟨x14, xr14, rfl, h2_14⟩ := ex_succ h2_13
  obtain ⟨x15, xr15, rfl, h2_15⟩ := ex_succ h2_14
  obtain ⟨x16, xr16, rfl, h2_16⟩ := ex_succ h2_15
  obtain ⟨x17, xr17, rfl, h2_17⟩ := ex_succ h2_16
  obtain ⟨x18, xr18, rfl, h2_18⟩ := ex_succ h2_17
  obtain ⟨x19, xr19, rfl, h2_19⟩ := ex_succ h2_18
  obtain ⟨x20, xr20, rfl, h2_20⟩ := ex_succ h2_19
  obtain ⟨x21, xr21, rfl, h2_21⟩ := ex_succ h2_20
  obtain ⟨x22, xr22, rfl, h2_22⟩ := ex_succ h2_21
  obtain ⟨x23, xr23, rfl, h2_23⟩ := ex_succ h2_22
  obtain ⟨x24, xr24, rfl, h2_24⟩ := ex_succ h2_23
  obtain ⟨x25, xr25, rfl, h2_25⟩ := ex_succ h2_24
  obtain ⟨x26, xr26, rfl, h2_26⟩ := ex_succ h2_25
  obtain ⟨x27, xr27, rfl, h2_27⟩ := ex_succ h2_26
  obtain ⟨x28, xr28, rfl, h2_28⟩ := ex_succ h2_27
  obtain ⟨x29, xr29, rfl, h2_29⟩ := ex_succ h2_28
  obtain ⟨x30, xr30, rfl, h2_30⟩ := ex_succ h2_29
  obtain ⟨x31, xr31, rfl, h2_31⟩ := ex_succ h2_30
  obtain ⟨x32, xr32, rfl, h2_32⟩ := ex_succ h2_31
  obtain ⟨x33, xr33, rfl, h2_33⟩ := ex_succ h2_32
  obtain ⟨x34, xr34, rfl, h2_34⟩ := ex_succ h2_33
  obtain ⟨x35, xr35, rfl, h2_35⟩ := ex_succ h2_34
  obtain ⟨x36, xr36, rfl, h2_36⟩ := ex_succ h2_35
  obtain rfl := List.length_eq_zero_iff.mp h2_36
  kernel_rfl
theorem rest1 (σ : List (Option SV)) (o : List MO) (h1 : σ.length = 11) (h2 : o.length = 40) : isRt (m_law_2 ⟨none :: some (.m 0) :: some (.d (.list (L1.map .str))) :: σ, o⟩) = true := by
  obtain ⟨v0, vr0, rfl, h1_0⟩ := ex_succ h1
  obtain ⟨v1, vr1, rfl, h1_1⟩ := ex_succ h1_0
  obtain ⟨v2, vr2, rfl, h1_2⟩ := ex_succ h1_1
  obtain ⟨v3, vr3, rfl, h1_3⟩ := ex_succ h1_2
  obtain ⟨v4, vr4, rfl, h1_4⟩ := ex_succ h1_3
  obtain ⟨v5, vr5, rfl, h1_5⟩ := ex_succ h1_4
  obtain ⟨v6, vr6, rfl, h1_6⟩ := ex_succ h1_5
  obtain ⟨v7, vr7, rfl, h1_7⟩ := ex_succ h1_6
  obtain ⟨v8, vr8, rfl, h1_8⟩ := ex_succ h1_7
  obtain ⟨v9, vr9, rfl, h1_9⟩ := ex_succ h1_8
  obtain ⟨v10, vr10, rfl, h1_10⟩ := ex_succ h1_9
  obtain rfl := List.length_eq_zero_iff.mp h1_10
  obtain ⟨x0, xr0, rfl, h2_0⟩ := ex_succ h2
  obtain ⟨x1, xr1, rfl, h2_1⟩ := ex_succ h2_0
  obtain ⟨x2, xr2, rfl, h2_2⟩ := ex_succ h2_1
  obtain ⟨x3, xr3, rfl, h2_3⟩ := ex_succ h2_2
  obtain ⟨x4, xr4, rfl, h2_4⟩ := ex_succ h2_3
  obtain ⟨x5, xr5, rfl, h2_5⟩ := ex_succ h2_4
  obtain ⟨x6, xr6, rfl, h2_6⟩ := ex_succ h2_5
  obtain ⟨x7, xr7, rfl, h2_7⟩ := ex_succ h2_6
  obtain ⟨x8, xr8, rfl, h2_8⟩ := ex_succ h2_7
  obtain ⟨x9, xr9, rfl, h2_9⟩ := ex_succ h2_8
  obtain ⟨x10, xr10, rfl, h2_10⟩ := ex_succ h2_9
  obtain ⟨x11, xr11, rfl, h2_11⟩ := ex_succ h2_10
  obtain ⟨x12, xr12, rfl, h2_12⟩ := ex_succ h2_11
  obtain ⟨x13, xr13, rfl, h2_13⟩ := ex_succ h2_12
  obtain ⟨x14, xr14, rfl, h2_14⟩ := ex_succ h2_13
  obtain ⟨x15, xr15, rfl, h2_15⟩ := ex_succ h2_14
  obtain ⟨x16, xr16, rfl, h2_16⟩ := ex_succ h2_15
  obtain ⟨x17, xr17, rfl, h2_17⟩ := ex_succ h2_16
  obtain ⟨x18, xr18, rfl, h2_18⟩ := ex_succ h2_17
  obtain ⟨x19, xr19, rfl, h2_19⟩ := ex_succ h2_18
  obtain ⟨x20, xr20, rfl, h2_20⟩ := ex_succ h2_19
  obtain ⟨x21, xr21, rfl, h2_21⟩ := ex_succ h2_20
  obtain ⟨x22, xr22, rfl, h2_22⟩ := ex_succ h2_21
  obtain ⟨x23, xr23, rfl, h2_23⟩ := ex_succ h2_22
  obtain ⟨x24, xr24, rfl, h2_24⟩ := ex_succ h2_23
  obtain ⟨x25, xr25, rfl, h2_25⟩ := ex_succ h2_24
  obtain ⟨x26, xr26, rfl, h2_26⟩ := ex_succ h2_25
  obtain ⟨x27, xr27, rfl, h2_27⟩ := ex_succ h2_26
  obtain ⟨x28, xr28, rfl, h2_28⟩ := ex_succ h2_27
  obtain ⟨x29, xr29, rfl, h2_29⟩ := ex_succ h2_28
  obtain ⟨x30, xr30, rfl, h2_30⟩ := ex_succ h2_29
  obtain ⟨x31, xr31, rfl, h2_31⟩ := ex_succ h2_30
  obtain ⟨x32, xr32, rfl, h2_32⟩ := ex_succ h2_31
  obtain ⟨x33, xr33, rfl, h2_33⟩ := ex_succ h2_32
  obtain ⟨x34, xr34, rfl, h2_34⟩ := ex_succ h2_33
  obtain ⟨x35, xr35, rfl, h2_35⟩ := ex_succ h2_34
  obtain ⟨x36, xr36, rfl, h2_36⟩ := ex_succ h2_35
  obtain ⟨x37, xr37, rfl, h2_37⟩ := ex_succ h2_36
  obtain ⟨x38, xr38, rfl, h2_38⟩ := ex_succ h2_37
  obtain ⟨x39, xr39, rfl, h2_39⟩ := ex_succ h2_38
  obtain rfl := List.length_eq_zero_iff.mp h2_39
  kernel_rfl
theorem r1 (cs : List Int) (x l w : Int) : isRt (m_law_1 ⟨none :: some (.m 0) :: some (.d (.list (L1.map .str))) :: List.replicate 11 none, [fdO cs x l w]⟩) = true := by
  obtain ⟨σ, o, e, h1, h2⟩ := rows_ok (g := tg1) (b := tb1) (im := im1) (n := 11) (c := 3) (k0 := 1) (L := L1) (items := rows) rows_im (σ := List.replicate 11 none) (o := [fdO cs x l w]) List.length_replicate rfl fun i hi σ o h1 h2 => by
    rw [rows_len] at hi
    match i, hi with
    | 0, _ => exact r1_0 σ o h1 h2
    | 1, _ => exact r1_1 σ o h1 h2
    | 2, _ => exact r1_2 σ o h1 h2
    | 3, _ => exact r1_3 σ o h1 h2
    | 4, _ => exact r1_4 σ o h1 h2
    | 5, _ => exact r1_5 σ o h1 h2
    | 6, _ => exact r1_6 σ o h1 h2
    | 7, _ => exact r1_7 σ o h1 h2
    | 8, _ => exact r1_8 σ o h1 h2
    | 9, _ => exact r1_9 σ o h1 h2
    | 10, _ => exact r1_10 σ o h1 h2
    | 11, _ => exact r1_11 σ o h1 h2
    | 12, _ => exact r1_12 σ o h1 h2
    | k + 13, h => omega
  rw [rows_len] at h2
  have e2 : m_law_1 ⟨none :: some (.m 0) :: some (.d (.list (L1.map .str))) :: List.replicate 11 none, [fdO cs x l w]⟩ = m_law_2 ⟨none :: some (.m 0) :: some (.d (.list (L1.map .str))) :: σ, o⟩ := mSeq_nx e
  rw [e2]
  exact rest1 σ o h1 h2
end
end H52

namespace H52
noncomputable section
open PySem PySem.Spec PyProof.Rows L2 RZ AP
variable [Tbls]
theorem r2_0 (σ : List (Option SV)) (o : List MO) (h1 : σ.length = 11) (h2 : o.length = 1) : isTurn 11 4 L2 (turnM tg1 tb1 (rows.getD 0 .none) ⟨none :: some (.m 0) :: some (.d (.list (L2.map .str))) :: σ, o⟩) = true := by
  obtain ⟨v0, vr0, rfl, h1_0⟩ := ex_succ h1
  obtain ⟨v1, vr1, rfl, h1_1⟩ := ex_succ h1_0
  obtain ⟨v2, vr2, rfl, h1_2⟩ := ex_succ h1_1
  obtain ⟨v3, vr3, rfl, h1_3⟩ := ex_succ h1_2
  obtain ⟨v4, vr4, rfl, h1_4⟩ := ex_succ h1_3
  obtain ⟨v5, vr5, rfl, h1_5⟩ := ex_succ h1_4
  obtain ⟨v6, vr6, rfl, h1_6⟩ := ex_succ h1_5
  obtain ⟨v7, vr7, rfl, h1_7⟩ := ex_succ h1_6
  obtain ⟨v8, vr8, rfl, h1_8⟩ := ex_succ h1_7
  obtain ⟨v9, vr9, rfl, h1_9⟩ := ex_succ h1_8
  obtain ⟨v10, vr10, rfl, h1_10⟩ := ex_succ h1_9
  obtain rfl := List.length_eq_zero_iff.mp h1_10
  obtain ⟨x0, xr0, rfl, h2_0⟩ := ex_succ h2
  obtain rfl := List.length_eq_zero_iff.mp h2_0
  kernel_rfl
theorem r2_1 (σ : List (Option SV)) (o : List MO) (h1 : σ.length = 11) (h2 : o.length = 4) : isTurn 11 7 L2 (turnM tg1 tb1 (rows.getD 1 .none) ⟨none :: some (.m 0) :: some (.d (.list (L2.map .str))) :: σ, o⟩) = true := by
  obtain ⟨v0, vr0, rfl, h1_0⟩ := ex_succ h1
  obtain ⟨v1, vr1, rfl, h1_1⟩ := ex_succ h1_0
  obtain ⟨v2, vr2, rfl, h1_2⟩ := ex_succ h1_1
  obtain ⟨v3, vr3, rfl, h1_3⟩ := ex_succ h1_2
  obtain ⟨v4, vr4, rfl, h1_4⟩ := ex_succ h1_3
  obtain ⟨v5, vr5, rfl, h1_5⟩ := ex_succ h1_4
  obtain ⟨v6, vr6, rfl, h1_6⟩ := ex_succ h1_5
  obtain ⟨v7, vr7, rfl, h1_7⟩ := ex_succ h1_6
  obtain ⟨v8, vr8, rfl, h1_8⟩ := ex_succ h1_7
  obtain ⟨v9, vr9, rfl, h1_9⟩ := ex_succ h1_8
  obtain ⟨v10, vr10, rfl, h1_10⟩ := ex_succ h1_9
  obtain rfl := List.length_eq_zero_iff.mp h1_10
  obtain ⟨x0, xr0, rfl, h2_0⟩ := ex_succ h2
  obtain ⟨x1, xr1, rfl, h2_1⟩ := ex_succ h2_0
  obtain ⟨x2, xr2, rfl, h2_2⟩ := ex_succ h2_1
  obtain ⟨x3, xr3, rfl, h2_3⟩ := ex_succ h2_2
  obtain rfl := List.length_eq_zero_iff.mp h2_3
  kernel_rfl
theorem r2_2 (σ : List (Option SV)) (o : List MO) (h1 : σ.length = 11) (h2 : o.length = 7) : isTurn 11 10 L2 (turnM tg1 tb1 (rows.getD 2 .none) ⟨none :: some (.m 0) :: some (.d (.list (L2.map .str))) :: σ, o⟩) = true := by
  obtain ⟨v0, vr0, rfl, h1_0⟩ := ex_succ h1
  obtain ⟨v1, vr1, rfl, h1_1⟩ := ex_succ h1_0
  obtain ⟨v2, vr2, rfl, h1_2⟩ := ex_succ h1_1
  obtain ⟨v3, vr3, rfl, h1_3⟩ := ex_succ h1_2
  obtain ⟨v4, vr4, rfl, h1_4⟩ := ex_succ h1_3
  obtain ⟨v5, vr5, rfl, h1_5⟩ := ex_succ h1_4
  obtain ⟨v6, vr6, rfl, h1_6⟩ := ex_succ h1_5
  obtain ⟨v7, vr7, rfl, h1_7⟩ := ex_succ h1_6
  obtain ⟨v8, vr8, rfl, h1_8⟩ := ex_succ h1_7
  obtain ⟨v9, vr9, rfl, h1_9⟩ := ex_succ h1_8
  obtain ⟨v10, vr10, rfl, h1_10⟩ := ex_succ h1_9
  obtain rfl := List.length_eq_zero_iff.mp h1_10
  obtain ⟨x0, xr0, rfl, h2_0⟩ := ex_succ h2
  obtain ⟨x1, xr1, rfl, h2_1⟩ := ex_succ h2_0
  obtain ⟨x2, xr2, rfl, h2_2⟩ := ex_succ h2_1
  obtain ⟨x3, xr3, rfl, h2_3⟩ := ex_succ h2_2
  obtain ⟨x4, xr4, rfl, h2_4⟩ := ex_succ h2_3
  obtain ⟨x5, xr5, rfl, h2_5⟩ := ex_succ h2_4
  obtain ⟨x6, xr6, rfl, h2_6⟩ := ex_succ h2_5
  obtain rfl := List.length_eq_zero_iff.mp h2_6
  kernel_rfl
theorem r2_3 (σ : List (Option SV)) (o : List MO) (h1 : σ.length = 11) (h2 : o.length = 10) : isTurn 11 13 L2 (turnM tg1 tb1 (rows.getD 3 .none) ⟨none :: some (.m 0) :: some (.d (.list (L2.map .str))) :: σ, o⟩) = true := by
  obtain ⟨v0, vr0, rfl, h1_0⟩ := ex_succ h1
  obtain ⟨v1, vr1, rfl, h1_1⟩ := ex_succ h1_0
  obtain ⟨v2, vr2, rfl, h1_2⟩ := ex_succ h1_1
  obtain ⟨v3, vr3, rfl, h1_3⟩ := ex_succ h1_2
  obtain ⟨v4, vr4, rfl, h1_4⟩ := ex_succ h1_3
  obtain ⟨v5, vr5, rfl, h1_5⟩ := ex_succ h1_4
  obtain ⟨v6, vr6, rfl, h1_6⟩ := ex_succ h1_5
  obtain ⟨v7, vr7, rfl, h1_7⟩ := ex_succ h1_6
  obtain ⟨v8, vr8, rfl, h1_8⟩ := ex_succ h1_7
  obtain ⟨v9, vr9, rfl, h1_9⟩ := ex_succ h1_8
  obtain ⟨v10, vr10, rfl, h1_10⟩ := ex_succ h1_9
  obtain rfl := List.length_eq_zero_iff.mp h1_10
  obtain ⟨x0, xr0, rfl, h2_0⟩ := ex_succ h2
  obtain ⟨x1, xr1, rfl, h2_1⟩ := ex_succ h2_0
  obtain ⟨x2, xr2, rfl, h2_2⟩ := ex_succ h2_1
  obtain ⟨x3, xr3, rfl, h2_3⟩ := ex_succ h2_2
  obtain ⟨x4, xr4, rfl, h2_4⟩ := ex_succ h2_3
  obtain ⟨x5, xr5, rfl, h2_5⟩ := ex_succ h2_4
  obtain ⟨x6, xr6, rfl, h2_6⟩ := ex_succ h2_5
  obtain ⟨x7, xr7, rfl, h2_7⟩ := ex_succ h2_6
  obtain ⟨x8, xr8, rfl, h2_8⟩ := ex_succ h2_7
  obtain ⟨x9, xr9, rfl, h2_9⟩ := ex_succ h2_8
  obtain rfl := List.length_eq_zero_iff.mp h2_9
  kernel_rfl
theorem r2_4 (σ : List (Option SV)) (o : List MO) (h1 : σ.length = 11) (h2 : o.length = 13) : isTurn 11 16 L2 (turnM tg1 tb1 (rows.getD 4 .none) ⟨none :: some (.m 0) :: some (.d (.list (L2.map .str))) :: σ, o⟩) = true := by
  obtain ⟨v0, vr0, rfl, h1_0⟩ := ex_succ h1
  obtain ⟨v1, vr1, rfl, h1_1⟩ := ex_succ h1_0
  obtain ⟨v2, vr2, rfl, h1_2⟩ := ex_succ h1_1
  obtain ⟨v3, vr3, rfl, h1_3⟩ := ex_succ h1_2
  obtain ⟨v4, vr4, rfl, h1_4⟩ := ex_succ h1_3
  obtain ⟨v5, vr5, rfl, h1_5⟩ := ex_succ h1_4
  obtain ⟨v6, vr6, rfl, h1_6⟩ := ex_succ h1_5
  obtain ⟨v7, vr7, rfl, h1_7⟩ := ex_succ h1_6
  obtain ⟨v8, vr8, rfl, h1_8⟩ := ex_succ h1_7
  obtain ⟨v9, vr9, rfl, h1_9⟩ := ex_succ h1_8
  obtain ⟨v10, vr10, rfl, h1_10⟩ := ex_succ h1_9
  obtain rfl := List.length_eq_zero_iff.mp h1_10
  obtain ⟨x0, xr0, rfl, h2_0⟩ := ex_succ h2
  obtain ⟨x1, xr1, rfl, h2_1⟩ := ex_succ h2_0
  obtain ⟨x2, xr2, rfl, h2_2⟩ := ex_succ h2_1
  obtain ⟨x3, xr3, rfl, h2_3⟩ := ex_succ h2_2
  obtain ⟨x4, xr4, rfl, h2_4⟩ := ex_succ h2_3
  obtain ⟨x5, xr5, rfl, h2_5⟩ := ex_succ h2_4
  obtain ⟨x6, xr6, rfl, h2_6⟩ := ex_succ h2_5
  obtain ⟨x7, xr7, rfl, h2_7⟩ := ex_succ h2_6
  obtain ⟨x8, xr8, rfl, h2_8⟩ := ex_succ h2_7
  obtain ⟨x9, xr9, rfl, h2_9⟩ := ex_succ h2_8
  obtain ⟨x10, xr10, rfl, h2_10⟩ := ex_succ h2_9
  obtain ⟨x11, xr11, rfl, h2_11⟩ := ex_succ h2_10
  obtain ⟨x12, xr12, rfl, h2_12⟩ := ex_succ h2_11
  obtain rfl := List.length_eq_zero_iff.mp h2_12
  kernel_rfl
theorem r2_5 (σ : List (Option SV)) (o : List MO) (h1 : σ.length = 11) (h2 : o.length = 16) : isTurn 11 19 L2 (turnM tg1 tb1 (rows.getD 5 .none) ⟨none :: some (.m 0) :: some (.d (.list (L2.map .str))) :: σ, o⟩) = true := by
  obtain ⟨v0, vr0, rfl, h1_0⟩ := ex_succ h1
  obtain ⟨v1, vr1, rfl, h1_1⟩ := ex_succ h1_0
  obtain ⟨v2, vr2, rfl, h1_2⟩ := ex_succ h1_1
  obtain ⟨v3, vr3, rfl, h1_3⟩ := ex_succ h1_2
  obtain ⟨v4, vr4, rfl, h1_4⟩ := ex_succ h1_3
  obtain ⟨v5, vr5, rfl, h1_5⟩ := ex_succ h1_4
  obtain ⟨v6, vr6, rfl, h1_6⟩ := ex_succ h1_5
  obtain ⟨v7, vr7, rfl, h1_7⟩ := ex_succ h1_6
  obtain ⟨v8, vr8, rfl, h1_8⟩ := ex_succ h1_7
  obtain ⟨v9, vr9, rfl, h1_9⟩ := ex_succ h1_8
  obtain ⟨v10, vr10, rfl, h1_10⟩ := ex_succ h1_9
  obtain rfl := List.length_eq_zero_iff.mp h1_10
  obtain ⟨x0, xr0, rfl, h2_0⟩ := ex_succ h2
  obtain ⟨x1, xr1, rfl, h2_1⟩ := ex_succ h2_0
  obtain ⟨x2, xr2, rfl, h2_2⟩ := ex_succ h2_1
  obtain ⟨x3, xr3, rfl, h2_3⟩ := ex_succ h2_2
  obtain ⟨x4, xr4, rfl, h2_4⟩ := ex_succ h2_3
  obtain ⟨x5, xr5, rfl, h2_5⟩ := ex_succ h2_4
  obtain ⟨x6, xr6, rfl, h2_6⟩ := ex_succ h2_5
  obtain ⟨x7, xr7, rfl, h2_7⟩ := ex_succ h2_6
  obtain ⟨x8, xr8, rfl, h2_8⟩ := ex_succ h2_7
  obtain ⟨x9, xr9, rfl, h2_9⟩ := ex_succ h2_8
  obtain ⟨x10, xr10, rfl, h2_10⟩ := ex_succ h2_9
  obtain ⟨x11, xr11, rfl, h2_11⟩ := ex_succ h2_10
  obtain ⟨x12, xr12, rfl, h2_12⟩ := ex_succ h2_11
  obtain ⟨x13, xr13, rfl, h2_13⟩ := ex_succ h2_12
  obtain ⟨x14, xr14, rfl, h2_14⟩ := ex_succ h2_13
  obtain ⟨x15, xr15, rfl, h2_15⟩ := ex_succ h2_14
  obtain rfl := List.length_eq_zero_iff.mp h2_15
  kernel_rfl
theorem r2_6 (σ : List (Option SV)) (o : List MO) (h1 : σ.length = 11) (h2 : o.length = 19) : isTurn 11 22 L2 (turnM tg1 tb1 (rows.getD 6 .none) ⟨none :: some (.m 0) :: some (.d (.list (L2.map .str))) :: σ, o⟩) = true := by
  obtain ⟨v0, vr0, rfl, h1_0⟩ := ex_succ h1
  obtain ⟨v1, vr1, rfl, h1_1⟩ := ex_succ h1_0
  obtain ⟨v2, vr2, rfl, h1_2⟩ := ex_succ h1_1
  obtain ⟨v3, vr3, rfl, h1_3⟩ := ex_succ h1_2
  obtain ⟨v4, vr4, rfl, h1_4⟩ := ex_succ h1_3
  obtain ⟨v5, vr5, rfl, h1_5⟩ := ex_succ h1_4
  obtain ⟨v6, vr6, rfl, h1_6⟩ := ex_succ h1_5
  obtain ⟨v7, vr7, rfl, h1_7⟩ := ex_succ h1_6
  obtain ⟨v8, vr8, rfl, h1_8⟩ := ex_succ h1_7
  obtain ⟨v9, vr9, rfl, h1_9⟩ := ex_succ h1_8
  obtain ⟨v10, vr10, rfl, h1_10⟩ := ex_succ h1_9
  obtain rfl := List.length_eq_zero_iff.mp h1_10
  obtain ⟨x0, xr0, rfl, h2_0⟩ := ex_succ h2
  obtain ⟨x1, xr1, rfl, h2_1⟩ := ex_succ h2_0
  obtain ⟨x2, xr2, rfl, h2_2⟩ := ex_succ h2_1
  obtain ⟨x3, xr3, rfl, h2_3⟩ := ex_succ h2_2
  obtain ⟨x4, xr4, rfl, h2_4⟩ := ex_succ h2_3
  obtain ⟨x5, xr5, rfl, h2_5⟩ := ex_succ h2_4
  obtain ⟨x6, xr6, rfl, h2_6⟩ := ex_succ h2_5
  obtain ⟨x7, xr7, rfl, h2_7⟩ := ex_succ h2_6
  obtain ⟨x8, xr8, rfl, h2_8⟩ := ex_succ h2_7
  obtain ⟨x9, xr9, rfl, h2_9⟩ := ex_succ h2_8
  obtain ⟨x10, xr10, rfl, h2_10⟩ := ex_succ h2_9
  obtain ⟨x11, xr11, rfl, h2_11⟩ := ex_succ h2_10
  obtain ⟨x12, xr12, rfl, h2_12⟩ := ex_succ h2_11
  obtain ⟨x13, xr13, rfl, h2_13⟩ := ex_succ h2_12
  obtain ⟨x14, xr14, rfl, h2_14⟩ := ex_succ h2_13
  obtain ⟨x15, xr15, rfl, h2_15⟩ := ex_succ h2_14
  obtain ⟨x16, xr16, rfl, h2_16⟩ := ex_succ h2_15
  obtain ⟨x17, xr17, rfl, h2_17⟩ := ex_succ h2_16
  obtain ⟨x18, xr18, rfl, h2_18⟩ := ex_succ h2_17
  obtain rfl := List.length_eq_zero_iff.mp h2_18
  kernel_rfl
theorem r2_7 (σ : List (Option SV)) (o : List MO) (h1 : σ.length = 11) (h2 : o.length = 22) : isTurn 11 25 L2 (turnM tg1 tb1 (rows.getD 7 .none) ⟨none :: some (.m 0) :: some (.d (.list (L2.map .str))) :: σ, o⟩) = true := by
  obtain ⟨v0, vr0, rfl, h1_0⟩ := ex_succ h1
  obtain ⟨v1, vr1, rfl, h1_1⟩ := ex_succ h1_0
  obtain ⟨v2, vr2, rfl, h1_2⟩ := ex_succ h1_1
  obtain ⟨v3, vr3, rfl, h1_3⟩ := ex_succ h1_2
  obtain ⟨v4, vr4, rfl, h1_4⟩ := ex_succ h1_3
  obtain ⟨v5, vr5, rfl, h1_5⟩ := ex_succ h1_4
  obtain ⟨v6, vr6, rfl, h1_6⟩ := ex_succ h1_5
  obtain ⟨v7, vr7, rfl, h1_7⟩ := ex_succ h1_6
  obtain ⟨v8, vr8, rfl, h1_8⟩ := ex_succ h1_7
  obtain ⟨v9, vr9, rfl, h1_9⟩ := ex_succ h1_8
  obtain ⟨v10, vr10, rfl, h1_10⟩ := ex_succ h1_9
  obtain rfl := List.length_eq_zero_iff.mp h1_10
  obtain ⟨x0, xr0, rfl, h2_0⟩ := ex_succ h2
  obtain ⟨x1, xr1, rfl, h2_1⟩ := ex_succ h2_0
  obtain ⟨x2, xr2, rfl, h2_2⟩ := ex_succ h2_1
  obtain ⟨x3, xr3, rfl, h2_3⟩ := ex_succ h2_2
  obtain ⟨x4, xr4, rfl, h2_4⟩ := ex_succ h2_3
  obtain ⟨x5, xr5, rfl, h2_5⟩ := ex_succ h2_4
  obtain ⟨x6, xr6, rfl, h2_6⟩ := ex_succ h2_5
  obtain ⟨x7, xr7, rfl, h2_7⟩ := ex_succ h2_6
  obtain ⟨x8, xr8, rfl, h2_8⟩ := ex_succ h2_7
  obtain ⟨x9, xr9, rfl, h2_9⟩ := ex_succ h2_8
  obtain ⟨x10, xr10, rfl, h2_10⟩ := ex_succ h2_9
  obtain ⟨x11, xr11, rfl, h2_11⟩ := ex_succ h2_10
  obtain ⟨x12, xr12, rfl, h2_12⟩ := ex_succ h2_11
  obtain ⟨x13, xr13, rfl, h2_13⟩ := ex_succ h2_12
  obtain ⟨x14, xr14, rfl, h2_14⟩ := ex_succ h2_13
  obtain ⟨x15, xr15, rfl, h2_15⟩ := ex_succ h2_14
  obtain ⟨x16, xr16, rfl, h2_16⟩ := ex_succ h2_15
  obtain ⟨x17, xr17, rfl, h2_17⟩ := ex_succ h2_16
  obtain ⟨x18, xr18, rfl, h2_18⟩ := ex_succ h2_17
  obtain ⟨x19, xr19, rfl, h2_19⟩ := ex_succ h2_18
  obtain ⟨x20, xr20, rfl, h2_20⟩ := ex_succ h2_19
  obtain ⟨x21, xr21, rfl, h2_21⟩ := ex_succ h2_20
  obtain rfl := List.length_eq_zero_iff.mp h2_21
  kernel_rfl
theorem r2_8 (σ : List (Option SV)) (o : List MO) (h1 : σ.length = 11) (h2 : o.length = 25) : isTurn 11 28 L2 (turnM tg1 tb1 (rows.getD 8 .none) ⟨none :: some (.m 0) :: some (.d (.list (L2.map .str))) :: σ, o⟩) = true := by
  obtain ⟨v0, vr0, rfl, h1_0⟩ := ex_succ h1
  obtain ⟨v1, vr1, rfl, h1_1⟩ := ex_succ h1_0
  obtain ⟨v2, vr2, rfl, h1_2⟩ := ex_succ h1_1
  obtain ⟨v3, vr3, rfl, h1_3⟩ := ex_succ h1_2
  obtain ⟨v4, vr4, rfl, h1_4⟩ := ex_succ h1_3
  obtain ⟨v5, vr5, rfl, h1_5⟩ := ex_succ h1_4
  obtain ⟨v6, vr6, rfl, h1_6⟩ := ex_succ h1_5
  obtain ⟨v7, vr7, rfl, h1_7⟩ := ex_succ h1_6
  obtain ⟨v8, vr8, rfl, h1_8⟩ := ex_succ h1_7
  obtain ⟨v9, vr9, rfl, h1_9⟩ := ex_succ h1_8
  obtain ⟨v10, vr10, rfl, h1_10⟩ := ex_succ h1_9
  obtain rfl := List.length_eq_zero_iff.mp h1_10
  obtain ⟨x0, xr0, rfl, h2_0⟩ := ex_succ h2
  obtain ⟨x1, xr1, rfl, h2_1⟩ := ex_succ h2_0
  obtain ⟨x2, xr2, rfl, h2_2⟩ := ex_succ h2_1
  obtain ⟨x3, xr3, rfl, h2_3⟩ := ex_succ h2_2
  obtain ⟨x4, xr4, rfl, h2_4⟩ := ex_succ h2_3
  obtain ⟨x5, xr5, rfl, h2_5⟩ := ex_succ h2_4
  obtain ⟨x6, xr6, rfl, h2_6⟩ := ex_succ h2_5
  obtain ⟨x7, xr7, rfl, h2_7⟩ := ex_succ h2_6
  obtain ⟨x8, xr8, rfl, h2_8⟩ := ex_succ h2_7
  obtain ⟨x9, xr9, rfl, h2_9⟩ := ex_succ h2_8
  obtain ⟨x10, xr10, rfl, h2_10⟩ := ex_succ h2_9
  obtain ⟨x11, xr11, rfl, h2_11⟩ := ex_succ h2_10
  obtain ⟨x12, xr12, rfl, h2_12⟩ := ex_succ h2_11
  obtain ⟨x13, xr13, rfl, h2_13⟩ := ex_succ h2_12
  obtain ⟨x14, xr14, rfl, h2_14⟩ := ex_succ h2_13
  obtain ⟨x15, xr15, rfl, h2_15⟩ := ex_succ h2_14
  obtain ⟨x16, xr16, rfl, h2_16⟩ := ex_succ h2_15
  obtain ⟨x17, xr17, rfl, h2_17⟩ := ex_succ h2_16
  obtain ⟨x18, xr18, rfl, h2_18⟩ := ex_succ h2_17
  obtain ⟨x19, xr19, rfl, h2_19⟩ := ex_succ h2_18
  obtain ⟨x20, xr20, rfl, h2_20⟩ := ex_succ h2_19
  obtain ⟨x21, xr21, rfl, h2_21⟩ := ex_succ h2_20
  obtain ⟨x22, xr22, rfl, h2_22⟩ := ex_succ h2_21
  obtain ⟨x23, xr23, rfl, h2_23⟩ := ex_succ h2_22
  obtain ⟨x24, xr24, rfl, h2_24⟩ := ex_succ h2_23
  obtain rfl := List.length_eq_zero_iff.mp h2_24
  kernel_rfl
theorem r2_9 (σ : List (Option SV)) (o : List MO) (h1 : σ.length = 11) (h2 : o.length = 28) : isTurn 11 31 L2 (turnM tg1 tb1 (rows.getD 9 .none) ⟨none :: some (.m 0) :: some (.d (.list (L2.map .str))) :: σ, o⟩) = true := by
  obtain ⟨v0, vr0, rfl, h1_0⟩ := ex_succ h1
  obtain ⟨v1, vr1, rfl, h1_1⟩ := ex_succ h1_0
  obtain ⟨v2, vr2, rfl, h1_2⟩ := ex_succ h1_1
  obtain ⟨v3, vr3, rfl, h1_3⟩ := ex_succ h1_2
  obtain ⟨v4, vr4, rfl, h1_4⟩ := ex_succ h1_3
  obtain ⟨v5, vr5, rfl, h1_5⟩ := ex_succ h1_4
  obtain ⟨v6, vr6, rfl, h1_6⟩ := ex_succ h1_5
  obtain ⟨v7, vr7, rfl, h1_7⟩ := ex_succ h1_6
  obtain ⟨v8, vr8, rfl, h1_8⟩ := ex_succ h1_7
  obtain ⟨v9, vr9, rfl, h1_9⟩ := ex_succ h1_8
  obtain ⟨v10, vr10, rfl, h1_10⟩ := ex_succ h1_9
  obtain rfl := List.length_eq_zero_iff.mp h1_10
  obtain ⟨x0, xr0, rfl, h2_0⟩ := ex_succ h2
  obtain ⟨x1, xr1, rfl, h2_1⟩ := ex_succ h2_0
  obtain ⟨x2, xr2, rfl, h2_2⟩ := ex_succ h2_1
  obtain ⟨x3, xr3, rfl, h2_3⟩ := ex_succ h2_2
  obtain ⟨x4, xr4, rfl, h2_4⟩ := ex_succ h2_3
  obtain ⟨x5, xr5, rfl, h2_5⟩ := ex_succ h2_4
  obtain ⟨x6, xr6, rfl, h2_6⟩ := ex_succ h2_5
  obtain ⟨x7, xr7, rfl, h2_7⟩ := ex_succ h2_6
  obtain ⟨x8, xr8, rfl, h2_8⟩ := ex_succ h2_7
  obtain ⟨x9, xr9, rfl, h2_9⟩ := ex_succ h2_8
  obtain ⟨x10, xr10, rfl, h2_10⟩ := ex_succ h2_9
  obtain ⟨x11, xr11, rfl, h2_11⟩ := ex_succ h2_10
  obtain ⟨x12, xr12, rfl, h2_12⟩ := ex_succ h2_11
  obtain ⟨x13, xr13, rfl, h2_13⟩ := ex_succ h2_12
  obtain ⟨x14, xr14, rfl, h2_14⟩ := ex_succ h2_13
  obtain ⟨x15, xr15, rfl, h2_15⟩ := ex_succ h2_14
  obtain ⟨x16, xr16, rfl, h2_16⟩ := ex_succ h2_15
  obtain ⟨x17, xr17, rfl, h2_17⟩ := ex_succ h2_16
  obtain ⟨x18, xr18, rfl, h2_18⟩ := ex_succ h2_17
  obtain ⟨x19, xr19, rfl, h2_19⟩ := ex_succ h2_18
  obtain ⟨x20, xr20, rfl, h2_20⟩ := ex_succ h2_19
  obtain ⟨x21, xr21, rfl, h2_21⟩ := ex_succ h2_20
  obtain ⟨x22, xr22, rfl, h2_22⟩ := ex_succ h2_21
  obtain ⟨x23, xr23, rfl, h2_23⟩ := ex_succ h2_22
  obtain ⟨x24, xr24, rfl, h2_24⟩ := ex_succ h2_23
  obtain ⟨x25, xr25, rfl, h2_25⟩ := ex_succ h2_24
  obtain ⟨x26, xr26, rfl, h2_26⟩ := ex_succ h2_25
  obtain ⟨x27, xr27, rfl, h2_27⟩ := ex_succ h2_26
  obtain rfl := List.length_eq_zero_iff.mp h2_27
  kernel_rfl
theorem r2_10 (σ : List (Option SV)) (o : List MO) (h1 : σ.length = 11) (h2 : o.length = 31) : isTurn 11 34 L2 (turnM tg1 tb1 (rows.getD 10 .none) ⟨none :: some (.m 0) :: some (.d (.list (L2.map .str))) :: σ, o⟩) = true := by
  obtain ⟨v0, vr0, rfl, h1_0⟩ := ex_succ h1
  obtain ⟨v1, vr1, rfl, h1_1⟩ := ex_succ h1_0
  obtain ⟨v2, vr2, rfl, h1_2⟩ := ex_succ h1_1
  obtain ⟨v3, vr3, rfl, h1_3⟩ := ex_succ h1_2
  obtain ⟨v4, vr4, rfl, h1_4⟩ := ex_succ h1_3
  obtain ⟨v5, vr5, rfl, h1_5⟩ := ex_succ h1_4
  obtain ⟨v6, vr6, rfl, h1_6⟩ := ex_succ h1_5
  obtain ⟨v7, vr7, rfl, h1_7⟩ := ex_succ h1_6
  obtain ⟨v8, vr8, rfl, h1_8⟩ := ex_succ h1_7
  obtain ⟨v9, vr9, rfl, h1_9⟩ := ex_succ h1_8
  obtain ⟨v10, vr10, rfl, h1_10⟩ := ex_succ h1_9
  obtain rfl := List.length_eq_zero_iff.mp h1_10
  obtain ⟨x0, xr0, rfl, h2_0⟩ := ex_succ h2
  obtain ⟨x1, xr1, rfl, h2_1⟩ := ex_succ h2_0
  obtain ⟨x2, xr2, rfl, h2_2⟩ := ex_succ h2_1
  obtain ⟨x3, xr3, rfl, h2_3⟩ := ex_succ h2_2
  obtain ⟨x4, xr4, rfl, h2_4⟩ := ex_succ h2_3
  obtain ⟨x5, xr5, rfl, h2_5⟩ := ex_succ h2_4
  obtain ⟨x6, xr6, rfl, h2_6⟩ := ex_succ h2_5
  obtain ⟨x7, xr7, rfl, h2_7⟩ := ex_succ h2_6
  obtain ⟨x8, xr8, rfl, h2_8⟩ := ex_succ h2_7
  obtain ⟨x9, xr9, rfl, h2_9⟩ := ex_succ h2_8
  obtain ⟨x10, xr10, rfl, h2_10⟩ := ex_succ h2_9
  obtain ⟨x11, xr11, rfl, h2_11⟩ := ex_succ h2_10
  obtain ⟨x12, xr12, rfl, h2_12⟩ := ex_succ h2_11
  obtain ⟨x13, xr13, rfl, h2_13⟩ := ex_succ h2_12
  obtain ⟨x14, xr14, rfl, h2_14⟩ := ex_succ h2_13
  obtain ⟨x15, xr15, rfl, h2_15⟩ := ex_succ h2_14
  obtain ⟨x16, xr16, rfl, h2_16⟩ := ex_succ h2_15
  obtain ⟨x17, xr17, rfl, h2_17⟩ := ex_succ h2_16
  obtain ⟨x18, xr18, rfl, h2_18⟩ := ex_succ h2_17
  obtain ⟨x19, xr19, rfl, h2_19⟩ := ex_succ h2_18
  obtain ⟨x20, xr20, rfl, h2_20⟩ := ex_succ h2_19
  obtain ⟨x21, xr21, rfl, h2_21⟩ := ex_succ h2_20
  obtain ⟨x22, xr22, rfl, h2_22⟩ := ex_succ h2_21
  obtain ⟨x23, xr23, rfl, h2_23⟩ := ex_succ h2_22
  obtain ⟨x24, xr24, rfl, h2_24⟩ := ex_succ h2_23
  obtain ⟨x25, xr25, rfl, h2_25⟩ := ex_succ h2_24
  obtain ⟨x26, xr26, rfl, h2_26⟩ := ex_succ h2_25
  obtain ⟨x27, xr27, rfl, h2_27⟩ := ex_succ h2_26
  obtain ⟨x28, xr28, rfl, h2_28⟩ := ex_succ h2_27
  obtain ⟨x29, xr29, rfl, h2_29⟩ := ex_succ h2_28
  obtain ⟨x30, xr30, rfl, h2_30⟩ := ex_succ h2_29
  obtain rfl := List.length_eq_zero_iff.mp h2_30
  kernel_rfl
theorem r2_11 (σ : List (Option SV)) (o : List MO) (h1 : σ.length = 11) (h2 : o.length = 34) : isTurn 11 37 L2 (turnM tg1 tb1 (rows.getD 11 .none) ⟨none :: some (.m 0) :: some (.d (.list (L2.map .str))) :: σ, o⟩) = true := by
  obtain ⟨v0, vr0, rfl, h1_0⟩ := ex_succ h1
  obtain ⟨v1, vr1, rfl, h1_1⟩ := ex_succ h1_0
  obtain ⟨v2, vr2, rfl, h1_2⟩ := ex_succ h1_1
  obtain ⟨v3, vr3, rfl, h1_3⟩ := ex_succ h1_2
  obtain ⟨v4, vr4, rfl, h1_4⟩ := ex_succ h1_3
  obtain ⟨v5, vr5, rfl, h1_5⟩ := ex_succ h1_4
  obtain ⟨v6, vr6, rfl, h1_6⟩ := ex_succ h1_5
  obtain ⟨v7, vr7, rfl, h1_7⟩ := ex_succ h1_6
  obtain ⟨v8, vr8, rfl, h1_8⟩ := ex_succ h1_7
  obtain ⟨v9, vr9, rfl, h1_9⟩ := ex_succ h1_8
  obtain ⟨v10, vr10, rfl, h1_10⟩ := ex_succ h1_9
  obtain rfl := List.length_eq_zero_iff.mp h1_10
  obtain ⟨x0, xr0, rfl, h2_0⟩ := ex_succ h2
  obtain ⟨x1, xr1, rfl, h2_1⟩ := ex_succ h2_0
  obtain ⟨x2, xr2, rfl, h2_2⟩ := ex_succ h2_1
  obtain ⟨x3, xr3, rfl, h2_3⟩ := ex_succ h2_2
  obtain ⟨x4, xr4, rfl, h2_4⟩ := ex_succ h2_3
  obtain ⟨x5, xr5, rfl, h2_5⟩ := ex_succ h2_4
  obtain ⟨x6, xr6, rfl, h2_6⟩ := ex_succ h2_5
  obtain ⟨x7, xr7, rfl, h2_7⟩ := ex_succ h2_6
  obtain ⟨x8, xr8, rfl, h2_8⟩ := ex_succ h2_7
  obtain ⟨x9, xr9, rfl, h2_9⟩ := ex_succ h2_8
  obtain ⟨x10, xr10, rfl, h2_10⟩ := ex_succ h2_9
  obtain ⟨x11, xr11, rfl, h2_11⟩ := ex_succ h2_10
  obtain ⟨x12, xr12, rfl, h2_12⟩ := ex_succ h2_11
  obtain ⟨x13, xr13, rfl, h2_13⟩ := ex_succ h2_12
  obtain ⟨x14, xr14, rfl, h2_14⟩ := ex_succ h2_13
  obtain ⟨x15, xr15, rfl, h2_15⟩ := ex_succ h2_14
  obtain ⟨x16, xr16, rfl, h2_16⟩ := ex_succ h2_15
  obtain ⟨x17, xr17, rfl, h2_17⟩ := ex_succ h2_16
  obtain ⟨x18, xr18, rfl, h2_18⟩ := ex_succ h2_17
  obtain ⟨x19, xr19, rfl, h2_19⟩ := ex_succ h2_18
  obtain ⟨x20, xr20, rfl, h2_20⟩ := ex_succ h2_19
  obtain ⟨x21, xr21, rfl, h2_21⟩ := ex_succ h2_20
  obtain ⟨x22, xr22, rfl, h2_22⟩ := ex_succ h2_21
  obtain ⟨x23, xr23, rfl, h2_23⟩ := ex_succ h2_22
  obtain ⟨x24, xr24, rfl, h2_24⟩ := ex_succ h2_23
  obtain ⟨x25, xr25, rfl, h2_25⟩ := ex_succ h2_24
  obtain ⟨x26, xr26, rfl, h2_26⟩ := ex_succ h2_25
  obtain ⟨x27, xr27, rfl, h2_27⟩ := ex_succ h2_26
  obtain ⟨x28, xr28, rfl, h2_28⟩ := ex_succ h2_27
  obtain ⟨x29, xr29, rfl, h2_29⟩ := ex_succ h2_28
  obtain ⟨x30, xr30, rfl, h2_30⟩ := ex_succ h2_29
  obtain ⟨x31, xr31, rfl, h2_31⟩ := ex_succ h2_30
  obtain ⟨x32, xr32, rfl, h2_32⟩ := ex_succ h2_31
  obtain ⟨x33, xr33, rfl, h2_33⟩ := ex_succ h2_32
  obtain rfl := List.length_eq_zero_iff.mp h2_33
  kernel_rfl
theorem r2_12 (σ : List (Option SV)) (o : List MO) (h1 : σ.length = 11) (h2 : o.length = 37) : isTurn 11 40 L2 (turnM tg1 tb1 (rows.getD 12 .none) ⟨none :: some (.m 0) :: some (.d (.list (L2.map .str))) :: σ, o⟩) = true := by
  obtain ⟨v0, vr0, rfl, h1_0⟩ := ex_succ h1
  obtain ⟨v1, vr1, rfl, h1_1⟩ := ex_succ h1_0
  obtain ⟨v2, vr2, rfl, h1_2⟩ := ex_succ h1_1
  obtain ⟨v3, vr3, rfl, h1_3⟩ := ex_succ h1_2
  obtain ⟨v4, vr4, rfl, h1_4⟩ := ex_succ h1_3
  obtain ⟨v5, vr5, rfl, h1_5⟩ := ex_succ h1_4
  obtain ⟨v6, vr6, rfl, h1_6⟩ := ex_succ h1_5
  obtain ⟨v7, vr7, rfl, h1_7⟩ := ex_succ h1_6
  obtain ⟨v8, vr8, rfl, h1_8⟩ := ex_succ h1_7
  obtain ⟨v9, vr9, rfl, h1_9⟩ := ex_succ h1_8
  obtain ⟨v10, vr10, rfl, h1_10⟩ := ex_succ h1_9
  obtain rfl := List.length_eq_zero_iff.mp h1_10
  obtain ⟨x0, xr0, rfl, h2_0⟩ := ex_succ h2
  obtain ⟨x1, xr1, rfl, h2_1⟩ := ex_succ h2_0
  obtain ⟨x2, xr2, rfl, h2_2⟩ := ex_succ h2_1
  obtain ⟨x3, xr3, rfl, h2_3⟩ := ex_succ h2_2
  obtain ⟨x4, xr4, rfl, h2_4⟩ := ex_succ h2_3
  obtain ⟨x5, xr5, rfl, h2_5⟩ := ex_succ h2_4
  obtain ⟨x6, xr6, rfl, h2_6⟩ := ex_succ h2_5
  obtain ⟨x7, xr7, rfl, h2_7⟩ := ex_succ h2_6
  obtain ⟨x8, xr8, rfl, h2_8⟩ := ex_succ h2_7
  obtain ⟨x9, xr9, rfl, h2_9⟩ := ex_succ h2_8
  obtain ⟨x10, xr10, rfl, h2_10⟩ := ex_succ h2_9
  obtain ⟨x11, xr11, rfl, h2_11⟩ := ex_succ h2_10
  obtain ⟨x12, xr12, rfl, h2_12⟩ := ex_succ h2_11
  obtain ⟨x13, xr13, rfl, h2_13⟩ := ex_succ h2_12
  obtain ⟨x14, xr14, rfl, h2_14⟩ := ex_succ h2_13
  obtain ⟨x15, xr15, rfl, h2_15⟩ := ex_succ h2_14
  obtain ⟨x16, xr16, rfl, h2_16⟩ := ex_succ h2_15
  obtain ⟨x17, xr17, rfl, h2_17⟩ := ex_succ h2_16
  obtain ⟨x18, xr18, rfl, h2_18⟩ := ex_succ h2_17
  obtain ⟨x19, xr19, rfl, h2_19⟩ := ex_succ h2_18
  obtain ⟨x20, xr20, rfl, h2_20⟩ := ex_succ h2_19
  obtain ⟨x21, xr21, rfl, h2_21⟩ := ex_succ h2_20
  obtain ⟨x22, xr22, rfl, h2_22⟩ := ex_succ h2_21
  obtain ⟨x23, xr23, rfl, h2_23⟩ := ex_succ h2_22
  obtain ⟨x24, xr24, rfl, h2_24⟩ := ex_succ h2_23
  obtain ⟨x25, xr25, rfl, h2_25⟩ := ex_succ h2_24
  obtain ⟨x26, xr26, rfl, h2_26⟩ := ex_succ h2_25
  obtain ⟨x27, xr27, rfl, h2_27⟩ := ex_succ h2_26
  obtain ⟨x28, xr28, rfl, h2_28⟩ := ex_succ h2_27
  obtain ⟨x29, xr29, rfl, h2_29⟩ := ex_succ h2_28
  obtain ⟨x30, xr30, rfl, h2_30⟩ := ex_succ h2_29
  obtain ⟨x31, xr31, rfl, h2_31⟩ := ex_succ h2_30
  obtain ⟨x32, xr32, rfl, h2_32⟩ := ex_succ h2_31
  obtain ⟨x33, xr33, rfl, h2_33⟩ := ex_succ h2_32
  obtain ⟨x34, xr34, rfl, h2_34⟩ := ex_succ h2_33
  obtain ⟨x35, xr35, rfl, h2_35⟩ := ex_succ h2_34
  obtain ⟨x36, xr36, rfl, h2_36⟩ := ex_succ h2_35
  obtain rfl := List.length_eq_zero_iff.mp h2_36
  kernel_rfl
theorem rest2 (σ : List (Option SV)) (o : List MO) (h1 : σ.length = 11) (h2 : o.length = 40) : isRt (m_law_2 ⟨none :: some (.m 0) :: some (.d (.list (L2.map .str))) :: σ, o⟩) = true := by
  obtain ⟨v0, vr0, rfl, h1_0⟩ := ex_succ h1
  obtain ⟨v1, vr1, rfl, h1_1⟩ := ex_succ h1_0
  obtain ⟨v2, vr2, rfl, h1_2⟩ := ex_succ h1_1
  obtain ⟨v3, vr3, rfl, h1_3⟩ := ex_succ h1_2
  obtain ⟨v4, vr4, rfl, h1_4⟩ := ex_succ h1_3
  obtain ⟨v5, vr5, rfl, h1_5⟩ := ex_succ h1_4
  obtain ⟨v6, vr6, rfl, h1_6⟩ := ex_succ h1_5
  obtain ⟨v7, vr7, rfl, h1_7⟩ := ex_succ h1_6
  obtain ⟨v8, vr8, rfl, h1_8⟩ := ex_succ h1_7
  obtain ⟨v9, vr9, rfl, h1_9⟩ := ex_succ h1_8
  obtain ⟨v10, vr10, rfl, h1_10⟩ := ex_succ h1_9
  obtain rfl := List.length_eq_zero_iff.mp h1_10
  obtain ⟨x0, xr0, rfl, h2_0⟩ := ex_succ h2
  obtain ⟨x1, xr1, rfl, h2_1⟩ := ex_succ h2_0
  obtain ⟨x2, xr2, rfl, h2_2⟩ := ex_succ h2_1
  obtain ⟨x3, xr3, rfl, h2_3⟩ := ex_succ h2_2
  obtain ⟨x4, xr4, rfl, h2_4⟩ := ex_succ h2_3
  obtain ⟨x5, xr5, rfl, h2_5⟩ := ex_succ h2_4
  obtain ⟨x6, xr6, rfl, h2_6⟩ := ex_succ h2_5
  obtain ⟨x7, xr7, rfl, h2_7⟩ := ex_succ h2_6
  obtain ⟨x8, xr8, rfl, h2_8⟩ := ex_succ h2_7
  obtain ⟨x9, xr9, rfl, h2_9⟩ := ex_succ h2_8
  obtain ⟨x10, xr10, rfl, h2_10⟩ := ex_succ h2_9
  obtain ⟨x11, xr11, rfl, h2_11⟩ := ex_succ h2_10
  obtain ⟨x12, xr12, rfl, h2_12⟩ := ex_succ h2_11
  obtain ⟨x13, xr13, rfl, h2_13⟩ := ex_succ h2_12
  obtain ⟨x14, xr14, rfl, h2_14⟩ := ex_succ h2_13
  obtain ⟨x15, xr15, rfl, h2_15⟩ := ex_succ h2_14
  obtain ⟨x16, xr16, rfl, h2_16⟩ := ex_succ h2_15
  obtain ⟨x17, xr17, rfl, h2_17⟩ := ex_succ h2_16
  obtain ⟨x18, xr18, rfl, h2_18⟩ := ex_succ h2_17
  obtain ⟨x19, xr19, rfl, h2_19⟩ := ex_succ h2_18
  obtain ⟨x20, xr20, rfl, h2_20⟩ := ex_succ h2_19
  obtain ⟨x21, xr21, rfl, h2_21⟩ := ex_succ h2_20
  obtain ⟨x22, xr22, rfl, h2_22⟩ := ex_succ h2_21
  obtain ⟨x23, xr23, rfl, h2_23⟩ := ex_succ h2_22
  obtain ⟨x24, xr24, rfl, h2_24⟩ := ex_succ h2_23
  obtain ⟨x25, xr25, rfl, h2_25⟩ := ex_succ h2_24
  obtain ⟨x26, xr26, rfl, h2_26⟩ := ex_succ h2_25
  obtain ⟨x27, xr27, rfl, h2_27⟩ := ex_succ h2_26
  obtain ⟨x28, xr28, rfl, h2_28⟩ := ex_succ h2_27
  obtain ⟨x29, xr29, rfl, h2_29⟩ := ex_succ h2_28
  obtain ⟨x30, xr30, rfl, h2_30⟩ := ex_succ h2_29
  obtain ⟨x31, xr31, rfl, h2_31⟩ := ex_succ h2_30
  obtain ⟨x32, xr32, rfl, h2_32⟩ := ex_succ h2_31
  obtain ⟨x33, xr33, rfl, h2_33⟩ := ex_succ h2_32
  obtain ⟨x34, xr34, rfl, h2_34⟩ := ex_succ h2_33
  obtain ⟨x35, xr35, rfl, h2_35⟩ := ex_succ h2_34
  obtain ⟨x36, xr36, rfl, h2_36⟩ := ex_succ h2_35
  obtain ⟨x37, xr37, rfl, h2_37⟩ := ex_succ h2_36
  obtain ⟨x38, xr38, rfl, h2_38⟩ := ex_succ h2_37
  obtain ⟨x39, xr39, rfl, h2_39⟩ := ex_succ h2_38
  obtain rfl := List.length_eq_zero_iff.mp h2_39
  kernel_rfl
theorem r2 (cs : List Int) (x l w : Int) : isRt (m_law_1 ⟨none :: some (.m 0) :: some (.d (.list (L2.map .str))) :: List.replicate 11 none, [fdO cs x l w]⟩) = true := by
  obtain ⟨σ, o, e, h1, h2⟩ := rows_ok (g := tg1) (b := tb1) (im := im1) (n := 11) (c := 3) (k0 := 1) (L := L2) (items := rows) rows_im (σ := List.replicate 11 none) (o := [fdO cs x l w]) List.length_replicate rfl fun i hi σ o h1 h2 => by
    rw [rows_len] at hi
    match i, hi with
    | 0, _ => exact r2_0 σ o h1 h2
    | 1, _ => exact r2_1 σ o h1 h2
    | 2, _ => exact r2_2 σ o h1 h2
    | 3, _ => exact r2_3 σ o h1 h2
    | 4, _ => exact r2_4 σ o h1 h2
    | 5, _ => exact r2_5 σ o h1 h2
    | 6, _ => exact r2_6 σ o h1 h2
    | 7, _ => exact r2_7 σ o h1 h2
    | 8, _ => exact r2_8 σ o h1 h2
    | 9, _ => exact r2_9 σ o h1 h2
    | 10, _ => exact r2_10 σ o h1 h2
    | 11, _ => exact r2_11 σ o h1 h2
    | 12, _ => exact r2_12 σ o h1 h2
    | k + 13, h => omega
  rw [rows_len] at h2
  have e2 : m_law_1 ⟨none :: some (.m 0) :: some (.d (.list (L2.map .str))) :: List.replicate 11 none, [fdO cs x l w]⟩ = m_law_2 ⟨none :: some (.m 0) :: some (.d (.list (L2.map .str))) :: σ, o⟩ := mSeq_nx e
  rw [e2]
  exact rest2 σ o h1 h2
end
end H52

namespace H52
noncomputable section
open PySem PySem.Spec PyProof.Rows L2 RZ AP
variable [Tbls]
theorem r3_0 (σ : List (Option SV)) (o : List MO) (h1 : σ.length = 11) (h2 : o.length = 1) : isTurn 11 4 L3 (turnM tg1 tb1 (rows.getD 0 .none) ⟨none :: some (.m 0) :: some (.d (.list (L3.map .str))) :: σ, o⟩) = true := by
  obtain ⟨v0, vr0, rfl, h1_0⟩ := ex_succ h1
  obtain ⟨v1, vr1, rfl, h1_1⟩ := ex_succ h1_0
  obtain ⟨v2, vr2, rfl, h1_2⟩ := ex_succ h1_1
  obtain ⟨v3, vr3, rfl, h1_3⟩ := ex_succ h1_2
  obtain ⟨v4, vr4, rfl, h1_4⟩ := ex_succ h1_3
  obtain ⟨v5, vr5, rfl, h1_5⟩ := ex_succ h1_4
  obtain ⟨v6, vr6, rfl, h1_6⟩ := ex_succ h1_5
  obtain ⟨v7, vr7, rfl, h1_7⟩ := ex_succ h1_6
  obtain ⟨v8, vr8, rfl, h1_8⟩ := ex_succ h1_7
  obtain ⟨v9, vr9, rfl, h1_9⟩ := ex_succ h1_8
  obtain ⟨v10, vr10, rfl, h1_10⟩ := ex_succ h1_9
  obtain rfl := List.length_eq_zero_iff.mp h1_10
  obtain ⟨x0, xr0, rfl, h2_0⟩ := ex_succ h2
  obtain rfl := List.length_eq_zero_iff.mp h2_0
  kernel_rfl
theorem r3_1 (σ : List (Option SV)) (o : List MO) (h1 : σ.length = 11) (h2 : o.length = 4) : isTurn 11 7 L3 (turnM tg1 tb1 (rows.getD 1 .none) ⟨none :: some (.m 0) :: some (.d (.list (L3.map .str))) :: σ, o⟩) = true := by
  obtain ⟨v0, vr0, rfl, h1_0⟩ := ex_succ h1
  obtain ⟨v1, vr1, rfl, h1_1⟩ := ex_succ h1_0
  obtain ⟨v2, vr2, rfl, h1_2⟩ := ex_succ h1_1
  obtain ⟨v3, vr3, rfl, h1_3⟩ := ex_succ h1_2
  obtain ⟨v4, vr4, rfl, h1_4⟩ := ex_succ h1_3
  obtain ⟨v5, vr5, rfl, h1_5⟩ := ex_succ h1_4
  obtain ⟨v6, vr6, rfl, h1_6⟩ := ex_succ h1_5
  obtain ⟨v7, vr7, rfl, h1_7⟩ := ex_succ h1_6
  obtain ⟨v8, vr8, rfl, h1_8⟩ := ex_succ h1_7
  obtain ⟨v9, vr9, rfl, h1_9⟩ := ex_succ h1_8
  obtain ⟨v10, vr10, rfl, h1_10⟩ := ex_succ h1_9
  obtain rfl := List.length_eq_zero_iff.mp h1_10
  obtain ⟨x0, xr0, rfl, h2_0⟩ := ex_succ h2
  obtain ⟨x1, xr1, rfl, h2_1⟩ := ex_succ h2_0
  obtain ⟨x2, xr2, rfl, h2_2⟩ := ex_succ h2_1
  obtain ⟨x3, xr3, rfl, h2_3⟩ := ex_succ h2_2
  obtain rfl := List.length_eq_zero_iff.mp h2_3
  kernel_rfl
theorem r3_2 (σ : List (Option SV)) (o : List MO) (h1 : σ.length = 11) (h2 : o.length = 7) : isTurn 11 10 L3 (turnM tg1 tb1 (rows.getD 2 .none) ⟨none :: some (.m 0) :: some (.d (.list (L3.map .str))) :: σ, o⟩) = true := by
  obtain ⟨v0, vr0, rfl, h1_0⟩ := ex_succ h1
  obtain ⟨v1, vr1, rfl, h1_1⟩ := ex_succ h1_0
  obtain ⟨v2, vr2, rfl, h1_2⟩ := ex_succ h1_1
  obtain ⟨v3, vr3, rfl, h1_3⟩ := ex_succ h1_2
  obtain ⟨v4, vr4, rfl, h1_4⟩ := ex_succ h1_3
  obtain ⟨v5, vr5, rfl, h1_5⟩ := ex_succ h1_4
  obtain ⟨v6, vr6, rfl, h1_6⟩ := ex_succ h1_5
  obtain ⟨v7, vr7, rfl, h1_7⟩ := ex_succ h1_6
  obtain ⟨v8, vr8, rfl, h1_8⟩ := ex_succ h1_7
  obtain ⟨v9, vr9, rfl, h1_9⟩ := ex_succ h1_8
  obtain ⟨v10, vr10, rfl, h1_10⟩ := ex_succ h1_9
  obtain rfl := List.length_eq_zero_iff.mp h1_10
  obtain ⟨x0, xr0, rfl, h2_0⟩ := ex_succ h2
  obtain ⟨x1, xr1, rfl, h2_1⟩ := ex_succ h2_0
  obtain ⟨x2, xr2, rfl, h2_2⟩ := ex_succ h2_1
  obtain ⟨x3, xr3, rfl, h2_3⟩ := ex_succ h2_2
  obtain ⟨x4, xr4, rfl, h2_4⟩ := ex_succ h2_3
  obtain ⟨x5, xr5, rfl, h2_5⟩ := ex_succ h2_4
  obtain ⟨x6, xr6, rfl, h2_6⟩ := ex_succ h2_5
  obtain rfl := List.length_eq_zero_iff.mp h2_6
  kernel_rfl
theorem r3_3 (σ : List (Option SV)) (o : List MO) (h1 : σ.length = 11) (h2 : o.length = 10) : isTurn 11 13 L3 (turnM tg1 tb1 (rows.getD 3 .none) ⟨none :: some (.m 0) :: some (.d (.list (L3.map .str))) :: σ, o⟩) = true := by
  obtain ⟨v0, vr0, rfl, h1_0⟩ := ex_succ h1
  obtain ⟨v1, vr1, rfl, h1_1⟩ := ex_succ h1_0
  obtain ⟨v2, vr2, rfl, h1_2⟩ := ex_succ h1_1
  obtain ⟨v3, vr3, rfl, h1_3⟩ := ex_succ h1_2
  obtain ⟨v4, vr4, rfl, h1_4⟩ := ex_succ h1_3
  obtain ⟨v5, vr5, rfl, h1_5⟩ := ex_succ h1_4
  obtain ⟨v6, vr6, rfl, h1_6⟩ := ex_succ h1_5
  obtain ⟨v7, vr7, rfl, h1_7⟩ := ex_succ h1_6
  obtain ⟨v8, vr8, rfl, h1_8⟩ := ex_succ h1_7
  obtain ⟨v9, vr9, rfl, h1_9⟩ := ex_succ h1_8
  obtain ⟨v10, vr10, rfl, h1_10⟩ := ex_succ h1_9
  obtain rfl := List.length_eq_zero_iff.mp h1_10
  obtain ⟨x0, xr0, rfl, h2_0⟩ := ex_succ h2
  obtain ⟨x1, xr1, rfl, h2_1⟩ := ex_succ h2_0
  obtain ⟨x2, xr2, rfl, h2_2⟩ := ex_succ h2_1
  obtain ⟨x3, xr3, rfl, h2_3⟩ := ex_succ h2_2
  obtain ⟨x4, xr4, rfl, h2_4⟩ := ex_succ h2_3
  obtain ⟨x5, xr5, rfl, h2_5⟩ := ex_succ h2_4
  obtain ⟨x6, xr6, rfl, h2_6⟩ := ex_succ h2_5
  obtain ⟨x7, xr7, rfl, h2_7⟩ := ex_succ h2_6
  obtain ⟨x8, xr8, rfl, h2_8⟩ := ex_succ h2_7
  obtain ⟨x9, xr9, rfl, h2_9⟩ := ex_succ h2_8
  obtain rfl := List.length_eq_zero_iff.mp h2_9
  kernel_rfl
theorem r3_4 (σ : List (Option SV)) (o : List MO) (h1 : σ.length = 11) (h2 : o.length = 13) : isTurn 11 16 L3 (turnM tg1 tb1 (rows.getD 4 .none) ⟨none :: some (.m 0) :: some (.d (.list (L3.map .str))) :: σ, o⟩) = true := by
  obtain ⟨v0, vr0, rfl, h1_0⟩ := ex_succ h1
  obtain ⟨v1, vr1, rfl, h1_1⟩ := ex_succ h1_0
  obtain ⟨v2, vr2, rfl, h1_2⟩ := ex_succ h1_1
  obtain ⟨v3, vr3, rfl, h1_3⟩ := ex_succ h1_2
  obtain ⟨v4, vr4, rfl, h1_4⟩ := ex_succ h1_3
  obtain ⟨v5, vr5, rfl, h1_5⟩ := ex_succ h1_4
  obtain ⟨v6, vr6, rfl, h1_6⟩ := ex_succ h1_5
  obtain ⟨v7, vr7, rfl, h1_7⟩ := ex_succ h1_6
  obtain ⟨v8, vr8, rfl, h1_8⟩ := ex_succ h1_7
  obtain ⟨v9, vr9, rfl, h1_9⟩ := ex_succ h1_8
  obtain ⟨v10, vr10, rfl, h1_10⟩ := ex_succ h1_9
  obtain rfl := List.length_eq_zero_iff.mp h1_10
  obtain ⟨x0, xr0, rfl, h2_0⟩ := ex_succ h2
  obtain ⟨x1, xr1, rfl, h2_1⟩ := ex_succ h2_0
  obtain ⟨x2, xr2, rfl, h2_2⟩ := ex_succ h2_1
  obtain ⟨x3, xr3, rfl, h2_3⟩ := ex_succ h2_2
  obtain ⟨x4, xr4, rfl, h2_4⟩ := ex_succ h2_3
  obtain ⟨x5, xr5, rfl, h2_5⟩ := ex_succ h2_4
  obtain ⟨x6, xr6, rfl, h2_6⟩ := ex_succ h2_5
  obtain ⟨x7, xr7, rfl, h2_7⟩ := ex_succ h2_6
  obtain ⟨x8, xr8, rfl, h2_8⟩ := ex_succ h2_7
  obtain ⟨x9, xr9, rfl, h2_9⟩ := ex_succ h2_8
  obtain ⟨x10, xr10, rfl, h2_10⟩ := ex_succ h2_9
  obtain ⟨x11, xr11, rfl, h2_11⟩ := ex_succ h2_10
  obtain ⟨x12, xr12, rfl, h2_12⟩ := ex_succ h2_11
  obtain rfl := List.length_eq_zero_iff.mp h2_12
  kernel_rfl
theorem r3_5 (σ : List (Option SV)) (o : List MO) (h1 : σ.length = 11) (h2 : o.length = 16) : isTurn 11 19 L3 (turnM tg1 tb1 (rows.getD 5 .none) ⟨none :: some (.m 0) :: some (.d (.list (L3.map .str))) :: σ, o⟩) = true := by
  obtain ⟨v0, vr0, rfl, h1_0⟩ := ex_succ h1
  obtain ⟨v1, vr1, rfl, h1_1⟩ := ex_succ h1_0
  obtain ⟨v2, vr2, rfl, h1_2⟩ := ex_succ h1_1
  obtain ⟨v3, vr3, rfl, h1_3⟩ := ex_succ h1_2
  obtain ⟨v4, vr4, rfl, h1_4⟩ := ex_succ h1_3
  obtain ⟨v5, vr5, rfl, h1_5⟩ := ex_succ h1_4
  obtain ⟨v6, vr6, rfl, h1_6⟩ := ex_succ h1_5
  obtain ⟨v7, vr7, rfl, h1_7⟩ := ex_succ h1_6
  obtain ⟨v8, vr8, rfl, h1_8⟩ := ex_succ h1_7
  obtain ⟨v9, vr9, rfl, h1_9⟩ := ex_succ h1_8
  obtain ⟨v10, vr10, rfl, h1_10⟩ := ex_succ h1_9
  obtain rfl := List.length_eq_zero_iff.mp h1_10
  obtain ⟨x0, xr0, rfl, h2_0⟩ := ex_succ h2
  obtain ⟨x1, xr1, rfl, h2_1⟩ := ex_succ h2_0
  obtain ⟨x2, xr2, rfl, h2_2⟩ := ex_succ h2_1
  obtain ⟨x3, xr3, rfl, h2_3⟩ := ex_succ h2_2
  obtain ⟨x4, xr4, rfl, h2_4⟩ := ex_succ h2_3
  obtain ⟨x5, xr5, rfl, h2_5⟩ := ex_succ h2_4
  obtain ⟨x6, xr6, rfl, h2_6⟩ := ex_succ h2_5
  obtain ⟨x7, xr7, rfl, h2_7⟩ := ex_succ h2_6
  obtain ⟨x8, xr8, rfl, h2_8⟩ := ex_succ h2_7
  obtain ⟨x9, xr9, rfl, h2_9⟩ := ex_succ h2_8
  obtain ⟨x10, xr10, rfl, h2_10⟩ := ex_succ h2_9
  obtain ⟨x11, xr11, rfl, h2_11⟩ := ex_succ h2_10
  obtain ⟨x12, xr12, rfl, h2_12⟩ := ex_succ h2_11
  obtain ⟨x13, xr13, rfl, h2_13⟩ := ex_succ h2_12
  obtain ⟨x14, xr14, rfl, h2_14⟩ := ex_succ h2_13
  obtain ⟨x15, xr15, rfl, h2_15⟩ := ex_succ h2_14
  obtain rfl := List.length_eq_zero_iff.mp h2_15
  kernel_rfl
theorem r3_6 (σ : List (Option SV)) (o : List MO) (h1 : σ.length = 11) (h2 : o.length = 19) : isTurn 11 22 L3 (turnM tg1 tb1 (rows.getD 6 .none) ⟨none :: some (.m 0) :: some (.d (.list (L3.map .str))) :: σ, o⟩) = true := by
  obtain ⟨v0, vr0, rfl, h1_0⟩ := ex_succ h1
  obtain ⟨v1, vr1, rfl, h1_1⟩ := ex_succ h1_0
  obtain ⟨v2, vr2, rfl, h1_2⟩ := ex_succ h1_1
  obtain ⟨v3, vr3, rfl, h1_3⟩ := ex_succ h1_2
  obtain ⟨v4, vr4, rfl, h1_4⟩ := ex_succ h1_3
  obtain ⟨v5, vr5, rfl, h1_5⟩ := ex_succ h1_4
  obtain ⟨v6, vr6, rfl, h1_6⟩ := ex_succ h1_5
  obtain ⟨v7, vr7, rfl, h1_7⟩ := ex_succ h1_6
  obtain ⟨v8, vr8, rfl, h1_8⟩ := ex_succ h1_7
  obtain ⟨v9, vr9, rfl, h1_9⟩ := ex_succ h1_8
  obtain ⟨v10, vr10, rfl, h1_10⟩ := ex_succ h1_9
  obtain rfl := List.length_eq_zero_iff.mp h1_10
  obtain ⟨x0, xr0, rfl, h2_0⟩ := ex_succ h2
  obtain ⟨x1, xr1, rfl, h2_1⟩ := ex_succ h2_0
  obtain ⟨x2, xr2, rfl, h2_2⟩ := ex_succ h2_1
  obtain ⟨x3, xr3, rfl, h2_3⟩ := ex_succ h2_2
  obtain ⟨x4, xr4, rfl, h2_4⟩ := ex_succ h2_3
  obtain ⟨x5, xr5, rfl, h2_5⟩ := ex_succ h2_4
  obtain ⟨x6, xr6, rfl, h2_6⟩ := ex_succ h2_5
  obtain ⟨x7, xr7, rfl, h2_7⟩ := ex_succ h2_6
  obtain ⟨x8, xr8, rfl, h2_8⟩ := ex_succ h2_7
  obtain ⟨x9, xr9, rfl, h2_9⟩ := ex_succ h2_8
  obtain ⟨x10, xr10, rfl, h2_10⟩ := ex_succ h2_9
  obtain ⟨x11, xr11, rfl, h2_11⟩ := ex_succ h2_10
  obtain ⟨x12, xr12, rfl, h2_12⟩ := ex_succ h2_11
  obtain ⟨x13, xr13, rfl, h2_13⟩ := ex_succ h2_12
  obtain ⟨x14, xr14, rfl, h2_14⟩ := ex_succ h2_13
  obtain ⟨x15, xr15, rfl, h2_15⟩ := ex_succ h2_14
  obtain ⟨x16, xr16, rfl, h2_16⟩ := ex_succ h2_15
  obtain ⟨x17, xr17, rfl, h2_17⟩ := ex_succ h2_16
  obtain ⟨x18, xr18, rfl, h2_18⟩ := ex_succ h2_17
  obtain rfl := List.length_eq_zero_iff.mp h2_18
  kernel_rfl
theorem r3_7 (σ : List (Option SV)) (o : List MO) (h1 : σ.length = 11) (h2 : o.length = 22) : isTurn 11 25 L3 (turnM tg1 tb1 (rows.getD 7 .none) ⟨none :: some (.m 0) :: some (.d (.list (L3.map .str))) :: σ, o⟩) = true := by
  obtain ⟨v0, vr0, rfl, h1_0⟩ := ex_succ h1
  obtain ⟨v1, vr1, rfl, h1_1⟩ := ex_succ h1_0
  obtain ⟨v2, vr2, rfl, h1_2⟩ := ex_succ h1_1
  obtain ⟨v3, vr3, rfl, h1_3⟩ := ex_succ h1_2
  obtain ⟨v4, vr4, rfl, h1_4⟩ := ex_succ h1_3
  obtain ⟨v5, vr5, rfl, h1_5⟩ := ex_succ h1_4
  obtain ⟨v6, vr6, rfl, h1_6⟩ := ex_succ h1_5
  obtain ⟨v7, vr7, rfl, h1_7⟩ := ex_succ h1_6
  obtain ⟨v8, vr8, rfl, h1_8⟩ := ex_succ h1_7
  obtain ⟨v9, vr9, rfl, h1_9⟩ := ex_succ h1_8
  obtain ⟨v10, vr10, rfl, h1_10⟩ := ex_succ h1_9
  obtain rfl := List.length_eq_zero_iff.mp h1_10
  obtain ⟨x0, xr0, rfl, h2_0⟩ := ex_succ h2
  obtain ⟨x1, xr1, rfl, h2_1⟩ := ex_succ h2_0
  obtain ⟨x2, xr2, rfl, h2_2⟩ := ex_succ h2_1
  obtain ⟨x3, xr3, rfl, h2_3⟩ := ex_succ h2_2
  obtain ⟨x4, xr4, rfl, h2_4⟩ := ex_succ h2_3
  obtain ⟨x5, xr5, rfl, h2_5⟩ := ex_succ h2_4
  obtain ⟨x6, xr6, rfl, h2_6⟩ := ex_succ h2_5
  obtain ⟨x7, xr7, rfl, h2_7⟩ := ex_succ h2_6
  obtain ⟨x8, xr8, rfl, h2_8⟩ := ex_succ h2_7
  obtain ⟨x9, xr9, rfl, h2_9⟩ := ex_succ h2_8
  obtain ⟨x10, xr10, rfl, h2_10⟩ := ex_succ h2_9
  obtain ⟨x11, xr11, rfl, h2_11⟩ := ex_succ h2_10
  obtain ⟨x12, xr12, rfl, h2_12⟩ := ex_succ h2_11
  obtain ⟨x13, xr13, rfl, h2_13⟩ := ex_succ h2_12
  obtain ⟨x14, xr14, rfl, h2_14⟩ := ex_succ h2_13
  obtain ⟨x15, xr15, rfl, h2_15⟩ := ex_succ h2_14
  obtain ⟨x16, xr16, rfl, h2_16⟩ := ex_succ h2_15
  obtain ⟨x17, xr17, rfl, h2_17⟩ := ex_succ h2_16
  obtain ⟨x18, xr18, rfl, h2_18⟩ := ex_succ h2_17
  obtain ⟨x19, xr19, rfl, h2_19⟩ := ex_succ h2_18
  obtain ⟨x20, xr20, rfl, h2_20⟩ := ex_succ h2_19
  obtain ⟨x21, xr21, rfl, h2_21⟩ := ex_succ h2_20
  obtain rfl := List.length_eq_zero_iff.mp h2_21
  kernel_rfl
theorem r3_8 (σ : List (Option SV)) (o : List MO) (h1 : σ.length = 11) (h2 : o.length = 25) : isTurn 11 28 L3 (turnM tg1 tb1 (rows.getD 8 .none) ⟨none :: some (.m 0) :: some (.d (.list (L3.map .str))) :: σ, o⟩) = true := by
  obtain ⟨v0, vr0, rfl, h1_0⟩ := ex_succ h1
  obtain ⟨v1, vr1, rfl, h1_1⟩ := ex_succ h1_0
  obtain ⟨v2, vr2, rfl, h1_2⟩ := ex_succ h1_1
  obtain ⟨v3, vr3, rfl, h1_3⟩ := ex_succ h1_2
  obtain ⟨v4, vr4, rfl, h1_4⟩ := ex_succ h1_3
  obtain ⟨v5, vr5, rfl, h1_5⟩ := ex_succ h1_4
  obtain ⟨v6, vr6, rfl, h1_6⟩ := ex_succ h1_5
  obtain ⟨v7, vr7, rfl, h1_7⟩ := ex_succ h1_6
  obtain ⟨v8, vr8, rfl, h1_8⟩ := ex_succ h1_7
  obtain ⟨v9, vr9, rfl, h1_9⟩ := ex_succ h1_8
  obtain ⟨v10, vr10, rfl, h1_10⟩ := ex_succ h1_9
  obtain rfl := List.length_eq_zero_iff.mp h1_10
  obtain ⟨x0, xr0, rfl, h2_0⟩ := ex_succ h2
  obtain ⟨x1, xr1, rfl, h2_1⟩ := ex_succ h2_0
  obtain ⟨x2, xr2, rfl, h2_2⟩ := ex_succ h2_1
  obtain ⟨x3, xr3, rfl, h2_3⟩ := ex_succ h2_2
  obtain ⟨x4, xr4, rfl, h2_4⟩ := ex_succ h2_3
  obtain ⟨x5, xr5, rfl, h2_5⟩ := ex_succ h2_4
  obtain ⟨x6, xr6, rfl, h2_6⟩ := ex_succ h2_5
  obtain ⟨x7, xr7, rfl, h2_7⟩ := ex_succ h2_6
  obtain ⟨x8, xr8, rfl, h2_8⟩ := ex_succ h2_7
  obtain ⟨x9, xr9, rfl, h2_9⟩ := ex_succ h2_8
  obtain ⟨x10, xr10, rfl, h2_10⟩ := ex_succ h2_9
  obtain ⟨x11, xr11, rfl, h2_11⟩ := ex_succ h2_10
  obtain ⟨x12, xr12, rfl, h2_12⟩ := ex_succ h2_11
  obtain ⟨x13, xr13, rfl, h2_13⟩ := ex_succ h2_12
  obtain ⟨x14, xr14, rfl, h2_14⟩ := ex_succ h2_13
  obtain ⟨x15, xr15, rfl, h2_15⟩ := ex_succ h2_14
  obtain ⟨x16, xr16, rfl, h2_16⟩ := ex_succ h2_15
  obtain ⟨x17, xr17, rfl, h2_17⟩ := ex_succ h2_16
  obtain ⟨x18, xr18, rfl, h2_18⟩ := ex_succ h2_17
  obtain ⟨x19, xr19, rfl, h2_19⟩ := ex_succ h2_18
  obtain ⟨x20, xr20, rfl, h2_20⟩ := ex_succ h2_19
  obtain ⟨x21, xr21, rfl, h2_21⟩ := ex_succ h2_20
  obtain ⟨x22, xr22, rfl, h2_22⟩ := ex_succ h2_21
  obtain ⟨x23, xr23, rfl, h2_23⟩ := ex_succ h2_22
  obtain ⟨x24, xr24, rfl, h2_24⟩ := ex_succ h2_23
  obtain rfl := List.length_eq_zero_iff.mp h2_24
  kernel_rfl
theorem r3_9 (σ : List (Option SV)) (o : List MO) (h1 : σ.length = 11) (h2 : o.length = 28) : isTurn 11 31 L3 (turnM tg1 tb1 (rows.getD 9 .none) ⟨none :: some (.m 0) :: some (.d (.list (L3.map .str))) :: σ, o⟩) = true := by
  obtain ⟨v0, vr0, rfl, h1_0⟩ := ex_succ h1
  obtain ⟨v1, vr1, rfl, h1_1⟩ := ex_succ h1_0
  obtain ⟨v2, vr2, rfl, h1_2⟩ := ex_succ h1_1
  obtain ⟨v3, vr3, rfl, h1_3⟩ := ex_succ h1_2
  obtain ⟨v4, vr4, rfl, h1_4⟩ := ex_succ h1_3
  obtain ⟨v5, vr5, rfl, h1_5⟩ := ex_succ h1_4
  obtain ⟨v6, vr6, rfl, h1_6⟩ := ex_succ h1_5
  obtain ⟨v7, vr7, rfl, h1_7⟩ := ex_succ h1_6
  obtain ⟨v8, vr8, rfl, h1_8⟩ := ex_succ h1_7
  obtain ⟨v9, vr9, rfl, h1_9⟩ := ex_succ h1_8
  obtain ⟨v10, vr10, rfl, h1_10⟩ := ex_succ h1_9
  obtain rfl := List.length_eq_zero_iff.mp h1_10
  obtain ⟨x0, xr0, rfl, h2_0⟩ := ex_succ h2
  obtain ⟨x1, xr1, rfl, h2_1⟩ := ex_succ h2_0
  obtain ⟨x2, xr2, rfl, h2_2⟩ := ex_succ h2_1
  obtain ⟨x3, xr3, rfl, h2_3⟩ := ex_succ h2_2
  obtain ⟨x4, xr4, rfl, h2_4⟩ := ex_succ h2_3
  obtain ⟨x5, xr5, rfl, h2_5⟩ := ex_succ h2_4
  obtain ⟨x6, xr6, rfl, h2_6⟩ := ex_succ h2_5
  obtain ⟨x7, xr7, rfl, h2_7⟩ := ex_succ h2_6
  obtain ⟨x8, xr8, rfl, h2_8⟩ := ex_succ h2_7
  obtain ⟨x9, xr9, rfl, h2_9⟩ := ex_succ h2_8
  obtain ⟨x10, xr10, rfl, h2_10⟩ := ex_succ h2_9
  obtain ⟨x11, xr11, rfl, h2_11⟩ := ex_succ h2_10
  obtain ⟨x12, xr12, rfl, h2_12⟩ := ex_succ h2_11
  obtain ⟨x13, xr13, rfl, h2_13⟩ := ex_succ h2_12
  obtain ⟨x14, xr14, rfl, h2_14⟩ := ex_succ h2_13
  obtain ⟨x15, xr15, rfl, h2_15⟩ := ex_succ h2_14
  obtain ⟨x16, xr16, rfl, h2_16⟩ := ex_succ h2_15
  obtain ⟨x17, xr17, rfl, h2_17⟩ := ex_succ h2_16
  obtain ⟨x18, xr18, rfl, h2_18⟩ := ex_succ h2_17
  obtain ⟨x19, xr19, rfl, h2_19⟩ := ex_succ h2_18
  obtain ⟨x20, xr20, rfl, h2_20⟩ := ex_succ h2_19
  obtain ⟨x21, xr21, rfl, h2_21⟩ := ex_succ h2_20
  obtain ⟨x22, xr22, rfl, h2_22⟩ := ex_succ h2_21
  obtain ⟨x23, xr23, rfl, h2_23⟩ := ex_succ h2_22
  obtain ⟨x24, xr24, rfl, h2_24⟩ := ex_succ h2_23
  obtain ⟨x25, xr25, rfl, h2_25⟩ := ex_succ h2_24
  obtain ⟨x26, xr26, rfl, h2_26⟩ := ex_succ h2_25
  obtain ⟨x27, xr27, rfl, h2_27⟩ := ex_succ h2_26
  obtain rfl := List.length_eq_zero_iff.mp h2_27
  kernel_rfl
theorem r3_10 (σ : List (Option SV)) (o : List MO) (h1 : σ.length = 11) (h2 : o.length = 31) : isTurn 11 34 L3 (turnM tg1 tb1 (rows.getD 10 .none) ⟨none :: some (.m 0) :: some (.d (.list (L3.map .str))) :: σ, o⟩) = true := by
  obtain ⟨v0, vr0, rfl, h1_0⟩ := ex_succ h1
  obtain ⟨v1, vr1, rfl, h1_1⟩ := ex_succ h1_0
  obtain ⟨v2, vr2, rfl, h1_2⟩ := ex_succ h1_1
  obtain ⟨v3, vr3, rfl, h1_3⟩ := ex_succ h1_2
  obtain ⟨v4, vr4, rfl, h1_4⟩ := ex_succ h1_3
  obtain ⟨v5, vr5, rfl, h1_5⟩ := ex_succ h1_4
  obtain ⟨v6, vr6, rfl, h1_6⟩ := ex_succ h1_5
  obtain ⟨v7, vr7, rfl, h1_7⟩ := ex_succ h1_6
  obtain ⟨v8, vr8, rfl, h1_8⟩ := ex_succ h1_7
  obtain ⟨v9, vr9, rfl, h1_9⟩ := ex_succ h1_8
  obtain ⟨v10, vr10, rfl, h1_10⟩ := ex_succ h1_9
  obtain rfl := List.length_eq_zero_iff.mp h1_10
  obtain ⟨x0, xr0, rfl, h2_0⟩ := ex_succ h2
  obtain ⟨x1, xr1, rfl, h2_1⟩ := ex_succ h2_0
  obtain ⟨x2, xr2, rfl, h2_2⟩ := ex_succ h2_1
  obtain ⟨x3, xr3, rfl, h2_3⟩ := ex_succ h2_2
  obtain ⟨x4, xr4, rfl, h2_4⟩ := ex_succ h2_3
  obtain ⟨x5, xr5, rfl, h2_5⟩ := ex_succ h2_4
  obtain ⟨x6, xr6, rfl, h2_6⟩ := ex_succ h2_5
  obtain ⟨x7, xr7, rfl, h2_7⟩ := ex_succ h2_6
  obtain ⟨x8, xr8, rfl, h2_8⟩ := ex_succ h2_7
  obtain ⟨x9, xr9, rfl, h2_9⟩ := ex_succ h2_8
  obtain ⟨x10, xr10, rfl, h2_10⟩ := ex_succ h2_9
  obtain ⟨x11, xr11, rfl, h2_11⟩ := ex_succ h2_10
  obtain ⟨x12, xr12, rfl, h2_12⟩ := ex_succ h2_11
  obtain ⟨x13, xr13, rfl, h2_13⟩ := ex_succ h2_12
  obtain ⟨x14, xr14, rfl, h2_14⟩ := ex_succ h2_13
  obtain ⟨x15, xr15, rfl, h2_15⟩ := ex_succ h2_14
  obtain ⟨x16, xr16, rfl, h2_16⟩ := ex_succ h2_15
  obtain ⟨x17, xr17, rfl, h2_17⟩ := ex_succ h2_16
  obtain ⟨x18, xr18, rfl, h2_18⟩ := ex_succ h2_17
  obtain ⟨x19, xr19, rfl, h2_19⟩ := ex_succ h2_18
  obtain ⟨x20, xr20, rfl, h2_20⟩ := ex_succ h2_19
  obtain ⟨x21, xr21, rfl, h2_21⟩ := ex_succ h2_20
  obtain ⟨x22, xr22, rfl, h2_22⟩ := ex_succ h2_21
  obtain ⟨x23, xr23, rfl, h2_23⟩ := ex_succ h2_22
  obtain ⟨x24, xr24, rfl, h2_24⟩ := ex_succ h2_23
  obtain ⟨x25, xr25, rfl, h2_25⟩ := ex_succ h2_24
  obtain ⟨x26, xr26, rfl, h2_26⟩ := ex_succ h2_25
  obtain ⟨x27, xr27, rfl, h2_27⟩ := ex_succ h2_26
  obtain ⟨x28, xr28, rfl, h2_28⟩ := ex_succ h2_27
  obtain ⟨x29, xr29, rfl, h2_29⟩ := ex_succ h2_28
  obtain ⟨x30, xr30, rfl, h2_30⟩ := ex_succ h2_29
  obtain rfl := List.length_eq_zero_iff.mp h2_30
  kernel_rfl
theorem r3_11 (σ : List (Option SV)) (o : List MO) (h1 : σ.length = 11) (h2 : o.length = 34) : isTurn 11 37 L3 (turnM tg1 tb1 (rows.getD 11 .none) ⟨none :: some (.m 0) :: some (.d (.list (L3.map .str))) :: σ, o⟩) = true := by
  obtain ⟨v0, vr0, rfl, h1_0⟩ := ex_succ h1
  obtain ⟨v1, vr1, rfl, h1_1⟩ := ex_succ h1_0
  obtain ⟨v2, vr2, rfl, h1_2⟩ := ex_succ h1_1
  obtain ⟨v3, vr3, rfl, h1_3⟩ := ex_succ h1_2
  obtain ⟨v4, vr4, rfl, h1_4⟩ := ex_succ h1_3
  obtain ⟨v5, vr5, rfl, h1_5⟩ := ex_succ h1_4
  obtain ⟨v6, vr6, rfl, h1_6⟩ := ex_succ h1_5
  obtain ⟨v7, vr7, rfl, h1_7⟩ := ex_succ h1_6
  obtain ⟨v8, vr8, rfl, h1_8⟩ := ex_succ h1_7
  obtain ⟨v9, vr9, rfl, h1_9⟩ := ex_succ h1_8
  obtain ⟨v10, vr10, rfl, h1_10⟩ := ex_succ h1_9
  obtain rfl := List.length_eq_zero_iff.mp h1_10
  obtain ⟨x0, xr0, rfl, h2_0⟩ := ex_succ h2
  obtain ⟨x1, xr1, rfl, h2_1⟩ := ex_succ h2_0
  obtain ⟨x2, xr2, rfl, h2_2⟩ := ex_succ h2_1
  obtain ⟨x3, xr3, rfl, h2_3⟩ := ex_succ h2_2
  obtain ⟨x4, xr4, rfl, h2_4⟩ := ex_succ h2_3
  obtain ⟨x5, xr5, rfl, h2_5⟩ := ex_succ h2_4
  obtain ⟨x6, xr6, rfl, h2_6⟩ := ex_succ h2_5
  obtain ⟨x7, xr7, rfl, h2_7⟩ := ex_succ h2_6
  obtain ⟨x8, xr8, rfl, h2_8⟩ := ex_succ h2_7
  obtain ⟨x9, xr9, rfl, h2_9⟩ := ex_succ h2_8
  obtain ⟨x10, xr10, rfl, h2_10⟩ := ex_succ h2_9
  obtain ⟨x11, xr11, rfl, h2_11⟩ := ex_succ h2_10
  obtain ⟨x12, xr12, rfl, h2_12⟩ := ex_succ h2_11
  obtain ⟨x13, xr13, rfl, h2_13⟩ := ex_succ h2_12
  obtain ⟨x14, xr14, rfl, h2_14⟩ := ex_succ h2_13
  obtain ⟨x15, xr15, rfl, h2_15⟩ := ex_succ h2_14
  obtain ⟨x16, xr16, rfl, h2_16⟩ := ex_succ h2_15
  obtain ⟨x17, xr17, rfl, h2_17⟩ := ex_succ h2_16
  obtain ⟨x18, xr18, rfl, h2_18⟩ := ex_succ h2_17
  obtain ⟨x19, xr19, rfl, h2_19⟩ := ex_succ h2_18
  obtain ⟨x20, xr20, rfl, h2_20⟩ := ex_succ h2_19
  obtain ⟨x21, xr21, rfl, h2_21⟩ := ex_succ h2_20
  obtain ⟨x22, xr22, rfl, h2_22⟩ := ex_succ h2_21
  obtain ⟨x23, xr23, rfl, h2_23⟩ := ex_succ h2_22
  obtain ⟨x24, xr24, rfl, h2_24⟩ := ex_succ h2_23
  obtain ⟨x25, xr25, rfl, h2_25⟩ := ex_succ h2_24
  obtain ⟨x26, xr26, rfl, h2_26⟩ := ex_succ h2_25
  obtain ⟨x27, xr27, rfl, h2_27⟩ := ex_succ h2_26
  obtain ⟨x28, xr28, rfl, h2_28⟩ := ex_succ h2_27
  obtain ⟨x29, xr29, rfl, h2_29⟩ := ex_succ h2_28
  obtain ⟨x30, xr30, rfl, h2_30⟩ := ex_succ h2_29
  obtain ⟨x31, xr31, rfl, h2_31⟩ := ex_succ h2_30
  obtain ⟨x32, xr32, rfl, h2_32⟩ := ex_succ h2_31
  obtain ⟨x33, xr33, rfl, h2_33⟩ := ex_succ h2_32
  obtain rfl := List.length_eq_zero_iff.mp h2_33
  kernel_rfl
theorem r3_12 (σ : List (Option SV)) (o : List MO) (h1 : σ.length = 11) (h2 : o.length = 37) : isTurn 11 40 L3 (turnM tg1 tb1 (rows.getD 12 .none) ⟨none :: some (.m 0) :: some (.d (.list (L3.map .str))) :: σ, o⟩) = true := by
  obtain ⟨v0, vr0, rfl, h1_0⟩ := ex_succ h1
  obtain ⟨v1, vr1, rfl, h1_1⟩ := ex_succ h1_0
  obtain ⟨v2, vr2, rfl, h1_2⟩ := ex_succ h1_1
  obtain ⟨v3, vr3, rfl, h1_3⟩ := ex_succ h1_2
  obtain ⟨v4, vr4, rfl, h1_4⟩ := ex_succ h1_3
  obtain ⟨v5, vr5, rfl, h1_5⟩ := ex_succ h1_4
  obtain ⟨v6, vr6, rfl, h1_6⟩ := ex_succ h1_5
  obtain ⟨v7, vr7, rfl, h1_7⟩ := ex_succ h1_6
  obtain ⟨v8, vr8, rfl, h1_8⟩ := ex_succ h1_7
  obtain ⟨v9, vr9, rfl, h1_9⟩ := ex_succ h1_8
  obtain ⟨v10, vr10, rfl, h1_10⟩ := ex_succ h1_9
  obtain rfl := List.length_eq_zero_iff.mp h1_10
  obtain ⟨x0, xr0, rfl, h2_0⟩ := ex_succ h2
  obtain ⟨x1, xr1, rfl, h2_1⟩ := ex_succ h2_0
  obtain ⟨x2, xr2, rfl, h2_2⟩ := ex_succ h2_1
  obtain ⟨x3, xr3, rfl, h2_3⟩ := ex_succ h2_2
  obtain ⟨x4, xr4, rfl, h2_4⟩ := ex_succ h2_3
  obtain ⟨x5, xr5, rfl, h2_5⟩ := ex_succ h2_4
  obtain ⟨x6, xr6, rfl, h2_6⟩ := ex_succ h2_5
  obtain ⟨x7, xr7, rfl, h2_7⟩ := ex_succ h2_6
  obtain ⟨x8, xr8, rfl, h2_8⟩ := ex_succ h2_7
  obtain ⟨x9, xr9, rfl, h2_9⟩ := ex_succ h2_8
  obtain ⟨x10, xr10, rfl, h2_10⟩ := ex_succ h2_9
  obtain ⟨x11, xr11, rfl, h2_11⟩ := ex_succ h2_10
  obtain ⟨x12, xr12, rfl, h2_12⟩ := ex_succ h2_11
  obtain ⟨x13, xr13, rfl, h2_13⟩ := ex_succ h2_12
  obtain ⟨x14, xr14, rfl, h2_14⟩ := ex_succ h2_13
  obtain ⟨x15, xr15, rfl, h2_15⟩ := ex_succ h2_14
  obtain ⟨x16, xr16, rfl, h2_16⟩ := ex_succ h2_15
  obtain ⟨x17, xr17, rfl, h2_17⟩ := ex_succ h2_16
  obtain ⟨x18, xr18, rfl, h2_18⟩ := ex_succ h2_17
  obtain ⟨x19, xr19, rfl, h2_19⟩ := ex_succ h2_18
  obtain ⟨x20, xr20, rfl, h2_20⟩ := ex_succ h2_19
  obtain ⟨x21, xr21, rfl, h2_21⟩ := ex_succ h2_20
  obtain ⟨x22, xr22, rfl, h2_22⟩ := ex_succ h2_21
  obtain ⟨x23, xr23, rfl, h2_23⟩ := ex_succ h2_22
  obtain ⟨x24, xr24, rfl, h2_24⟩ := ex_succ h2_23
  obtain ⟨x25, xr25, rfl, h2_25⟩ := ex_succ h2_24
  obtain ⟨x26, xr26, rfl, h2_26⟩ := ex_succ h2_25
  obtain ⟨x27, xr27, rfl, h2_27⟩ := ex_succ h2_26
  obtain ⟨x28, xr28, rfl, h2_28⟩ := ex_succ h2_27
  obtain ⟨x29, xr29, rfl, h2_29⟩ := ex_succ h2_28
  obtain ⟨x30, xr30, rfl, h2_30⟩ := ex_succ h2_29
  obtain ⟨x31, xr31, rfl, h2_31⟩ := ex_succ h2_30
  obtain ⟨x32, xr32, rfl, h2_32⟩ := ex_succ h2_31
  obtain ⟨x33, xr33, rfl, h2_33⟩ := ex_succ h2_32
  obtain ⟨x34, xr34, rfl, h2_34⟩ := ex_succ h2_33
  obtain ⟨x35, xr35, rfl, h2_35⟩ := ex_succ h2_34
  obtain ⟨x36, xr36, rfl, h2_36⟩ := ex_succ h2_35
  obtain rfl := List.length_eq_zero_iff.mp h2_36
  kernel_rfl
theorem rest3 (σ : List (Option SV)) (o : List MO) (h1 : σ.length = 11) (h2 : o.length = 40) : isRt (m_law_2 ⟨none :: some (.m 0) :: some (.d (.list (L3.map .str))) :: σ, o⟩) = true := by
  obtain ⟨v0, vr0, rfl, h1_0⟩ := ex_succ h1
  obtain ⟨v1, vr1, rfl, h1_1⟩ := ex_succ h1_0
  obtain ⟨v2, vr2, rfl, h1_2⟩ := ex_succ h1_1
  obtain ⟨v3, vr3, rfl, h1_3⟩ := ex_succ h1_2
  obtain ⟨v4, vr4, rfl, h1_4⟩ := ex_succ h1_3
  obtain ⟨v5, vr5, rfl, h1_5⟩ := ex_succ h1_4
  obtain ⟨v6, vr6, rfl, h1_6⟩ := ex_succ h1_5
  obtain ⟨v7, vr7, rfl, h1_7⟩ := ex_succ h1_6
  obtain ⟨v8, vr8, rfl, h1_8⟩ := ex_succ h1_7
  obtain ⟨v9, vr9, rfl, h1_9⟩ := ex_succ h1_8
  obtain ⟨v10, vr10, rfl, h1_10⟩ := ex_succ h1_9
  obtain rfl := List.length_eq_zero_iff.mp h1_10
  obtain ⟨x0, xr0, rfl, h2_0⟩ := ex_succ h2
  obtain ⟨x1, xr1, rfl, h2_1⟩ := ex_succ h2_0
  obtain ⟨x2, xr2, rfl, h2_2⟩ := ex_succ h2_1
  obtain ⟨x3, xr3, rfl, h2_3⟩ := ex_succ h2_2
  obtain ⟨x4, xr4, rfl, h2_4⟩ := ex_succ h2_3
  obtain ⟨x5, xr5, rfl, h2_5⟩ := ex_succ h2_4
  obtain ⟨x6, xr6, rfl, h2_6⟩ := ex_succ h2_5
  obtain ⟨x7, xr7, rfl, h2_7⟩ := ex_succ h2_6
  obtain ⟨x8, xr8, rfl, h2_8⟩ := ex_succ h2_7
  obtain ⟨x9, xr9, rfl, h2_9⟩ := ex_succ h2_8
  obtain ⟨x10, xr10, rfl, h2_10⟩ := ex_succ h2_9
  obtain ⟨x11, xr11, rfl, h2_11⟩ := ex_succ h2_10
  obtain ⟨x12, xr12, rfl, h2_12⟩ := ex_succ h2_11
  obtain ⟨x13, xr13, rfl, h2_13⟩ := ex_succ h2_12
  obtain ⟨x14, xr14, rfl, h2_14⟩ := ex_succ h2_13
  obtain ⟨x15, xr15, rfl, h2_15⟩ := ex_succ h2_14
  obtain ⟨x16, xr16, rfl, h2_16⟩ := ex_succ h2_15
  obtain ⟨x17, xr17, rfl, h2_17⟩ := ex_succ h2_16
  obtain ⟨x18, xr18, rfl, h2_18⟩ := ex_succ h2_17
  obtain ⟨x19, xr19, rfl, h2_19⟩ := ex_succ h2_18
  obtain ⟨x20, xr20, rfl, h2_20⟩ := ex_succ h2_19
  obtain ⟨x21, xr21, rfl, h2_21⟩ := ex_succ h2_20
  obtain ⟨x22, xr22, rfl, h2_22⟩ := ex_succ h2_21
  obtain ⟨x23, xr23, rfl, h2_23⟩ := ex_succ h2_22
  obtain ⟨x24, xr24, rfl, h2_24⟩ := ex_succ h2_23
  obtain ⟨x25, xr25, rfl, h2_25⟩ := ex_succ h2_24
  obtain ⟨x26, xr26, rfl, h2_26⟩ := ex_succ h2_25
  obtain ⟨x27, xr27, rfl, h2_27⟩ := ex_succ h2_26
  obtain ⟨x28, xr28, rfl, h2_28⟩ := ex_succ h2_27
  obtain ⟨x29, xr29, rfl, h2_29⟩ := ex_succ h2_28
  obtain ⟨x30, xr30, rfl, h2_30⟩ := ex_succ h2_29
  obtain ⟨x31, xr31, rfl, h2_31⟩ := ex_succ h2_30
  obtain ⟨x32, xr32, rfl, h2_32⟩ := ex_succ h2_31
  obtain ⟨x33, xr33, rfl, h2_33⟩ := ex_succ h2_32
  obtain ⟨x34, xr34, rfl, h2_34⟩ := ex_succ h2_33
  obtain ⟨x35, xr35, rfl, h2_35⟩ := ex_succ h2_34
  obtain ⟨x36, xr36, rfl, h2_36⟩ := ex_succ h2_35
  obtain ⟨x37, xr37, rfl, h2_37⟩ := ex_succ h2_36
  obtain ⟨x38, xr38, rfl, h2_38⟩ := ex_succ h2_37
  obtain ⟨x39, xr39, rfl, h2_39⟩ := ex_succ h2_38
  obtain rfl := List.length_eq_zero_iff.mp h2_39
  kernel_rfl
theorem r3 (cs : List Int) (x l w : Int) : isRt (m_law_1 ⟨none :: some (.m 0) :: some (.d (.list (L3.map .str))) :: List.replicate 11 none, [fdO cs x l w]⟩) = true := by
  obtain ⟨σ, o, e, h1, h2⟩ := rows_ok (g := tg1) (b := tb1) (im := im1) (n := 11) (c := 3) (k0 := 1) (L := L3) (items := rows) rows_im (σ := List.replicate 11 none) (o := [fdO cs x l w]) List.length_replicate rfl fun i hi σ o h1 h2 => by
    rw [rows_len] at hi
    match i, hi with
    | 0, _ => exact r3_0 σ o h1 h2
    | 1, _ => exact r3_1 σ o h1 h2
    | 2, _ => exact r3_2 σ o h1 h2
    | 3, _ => exact r3_3 σ o h1 h2
    | 4, _ => exact r3_4 σ o h1 h2
    | 5, _ => exact r3_5 σ o h1 h2
    | 6, _ => exact r3_6 σ o h1 h2
    | 7, _ => exact r3_7 σ o h1 h2
    | 8, _ => exact r3_8 σ o h1 h2
    | 9, _ => exact r3_9 σ o h1 h2
    | 10, _ => exact r3_10 σ o h1 h2
    | 11, _ => exact r3_11 σ o h1 h2
    | 12, _ => exact r3_12 σ o h1 h2
    | k + 13, h => omega
  rw [rows_len] at h2
  have e2 : m_law_1 ⟨none :: some (.m 0) :: some (.d (.list (L3.map .str))) :: List.replicate 11 none, [fdO cs x l w]⟩ = m_law_2 ⟨none :: some (.m 0) :: some (.d (.list (L3.map .str))) :: σ, o⟩ := mSeq_nx e
  rw [e2]
  exact rest3 σ o h1 h2
end
end H52

namespace H52
noncomputable section
open PySem PySem.Spec PyProof.Rows L2 RZ AP
variable [Tbls]
theorem r4_0 (σ : List (Option SV)) (o : List MO) (h1 : σ.length = 11) (h2 : o.length = 1) : isTurn 11 4 L4 (turnM tg1 tb1 (rows.getD 0 .none) ⟨none :: some (.m 0) :: some (.d (.list (L4.map .str))) :: σ, o⟩) = true := by
  obtain ⟨v0, vr0, rfl, h1_0⟩ := ex_succ h1
  obtain ⟨v1, vr1, rfl, h1_1⟩ := ex_succ h1_0
  obtain ⟨v2, vr2, rfl, h1_2⟩ := ex_succ h1_1
  obtain ⟨v3, vr3, rfl, h1_3⟩ := ex_succ h1_2
  obtain ⟨v4, vr4, rfl, h1_4⟩ := ex_succ h1_3
  obtain ⟨v5, vr5, rfl, h1_5⟩ := ex_succ h1_4
  obtain ⟨v6, vr6, rfl, h1_6⟩ := ex_succ h1_5
  obtain ⟨v7, vr7, rfl, h1_7⟩ := ex_succ h1_6
  obtain ⟨v8, vr8, rfl, h1_8⟩ := ex_succ h1_7
  obtain ⟨v9, vr9, rfl, h1_9⟩ := ex_succ h1_8
  obtain ⟨v10, vr10, rfl, h1_10⟩ := ex_succ h1_9
  obtain rfl := List.length_eq_zero_iff.mp h1_10
  obtain ⟨x0, xr0, rfl, h2_0⟩ := ex_succ h2
  obtain rfl := List.length_eq_zero_iff.mp h2_0
  kernel_rfl
theorem r4_1 (σ : List (Option SV)) (o : List MO) (h1 : σ.length = 11) (h2 : o.length = 4) : isTurn 11 7 L4 (turnM tg1 tb1 (rows.getD 1 .none) ⟨none :: some (.m 0) :: some (.d (.list (L4.map .str))) :: σ, o⟩) = true := by
  obtain ⟨v0, vr0, rfl, h1_0⟩ := ex_succ h1
  obtain ⟨v1, vr1, rfl, h1_1⟩ := ex_succ h1_0
  obtain ⟨v2, vr2, rfl, h1_2⟩ := ex_succ h1_1
  obtain ⟨v3, vr3, rfl, h1_3⟩ := ex_succ h1_2
  obtain ⟨v4, vr4, rfl, h1_4⟩ := ex_succ h1_3
  obtain ⟨v5, vr5, rfl, h1_5⟩ := ex_succ h1_4
  obtain ⟨v6, vr6, rfl, h1_6⟩ := ex_succ h1_5
  obtain ⟨v7, vr7, rfl, h1_7⟩ := ex_succ h1_6
  obtain ⟨v8, vr8, rfl, h1_8⟩ := ex_succ h1_7
  obtain ⟨v9, vr9, rfl, h1_9⟩ := ex_succ h1_8
  obtain ⟨v10, vr10, rfl, h1_10⟩ := ex_succ h1_9
  obtain rfl := List.length_eq_zero_iff.mp h1_10
  obtain ⟨x0, xr0, rfl, h2_0⟩ := ex_succ h2
  obtain ⟨x1, xr1, rfl, h2_1⟩ := ex_succ h2_0
  obtain ⟨x2, xr2, rfl, h2_2⟩ := ex_succ h2_1
  obtain ⟨x3, xr3, rfl, h2_3⟩ := ex_succ h2_2
  obtain rfl := List.length_eq_zero_iff.mp h2_3
  kernel_rfl
theorem r4_2 (σ : List (Option SV)) (o : List MO) (h1 : σ.length = 11) (h2 : o.length = 7) : isTurn 11 10 L4 (turnM tg1 tb1 (rows.getD 2 .none) ⟨none :: some (.m 0) :: some (.d (.list (L4.map .str))) :: σ, o⟩) = true := by
  obtain ⟨v0, vr0, rfl, h1_0⟩ := ex_succ h1
  obtain ⟨v1, vr1, rfl, h1_1⟩ := ex_succ h1_0
  obtain ⟨v2, vr2, rfl, h1_2⟩ := ex_succ h1_1
  obtain ⟨v3, vr3, rfl, h1_3⟩ := ex_succ h1_2
  obtain ⟨v4, vr4, rfl, h1_4⟩ := ex_succ h1_3
  obtain ⟨v5, vr5, rfl, h1_5⟩ := ex_succ h1_4
  obtain ⟨v6, vr6, rfl, h1_6⟩ := ex_succ h1_5
  obtain ⟨v7, vr7, rfl, h1_7⟩ := ex_succ h1_6
  obtain ⟨v8, vr8, rfl, h1_8⟩ := ex_succ h1_7
  obtain ⟨v9, vr9, rfl, h1_9⟩ := ex_succ h1_8
  obtain ⟨v10, vr10, rfl, h1_10⟩ := ex_succ h1_9
  obtain rfl := List.length_eq_zero_iff.mp h1_10
  obtain ⟨x0, xr0, rfl, h2_0⟩ := ex_succ h2
  obtain ⟨x1, xr1, rfl, h2_1⟩ := ex_succ h2_0
  obtain ⟨x2, xr2, rfl, h2_2⟩ := ex_succ h2_1
  obtain ⟨x3, xr3, rfl, h2_3⟩ := ex_succ h2_2
  obtain ⟨x4, xr4, rfl, h2_4⟩ := ex_succ h2_3
  obtain ⟨x5, xr5, rfl, h2_5⟩ := ex_succ h2_4
  obtain ⟨x6, xr6, rfl, h2_6⟩ := ex_succ h2_5
  obtain rfl := List.length_eq_zero_iff.mp h2_6
  kernel_rfl
theorem r4_3 (σ : List (Option SV)) (o : List MO) (h1 : σ.length = 11) (h2 : o.length = 10) : isTurn 11 13 L4 (turnM tg1 tb1 (rows.getD 3 .none) ⟨none :: some (.m 0) :: some (.d (.list (L4.map .str))) :: σ, o⟩) = true := by
  obtain ⟨v0, vr0, rfl, h1_0⟩ := ex_succ h1
  obtain ⟨v1, vr1, rfl, h1_1⟩ := ex_succ h1_0
  obtain ⟨v2, vr2, rfl, h1_2⟩ := ex_succ h1_1
  obtain ⟨v3, vr3, rfl, h1_3⟩ := ex_succ h1_2
  obtain ⟨v4, vr4, rfl, h1_4⟩ := ex_succ h1_3
  obtain ⟨v5, vr5, rfl, h1_5⟩ := ex_succ h1_4
  obtain ⟨v6, vr6, rfl, h1_6⟩ := ex_succ h1_5
  obtain ⟨v7, vr7, rfl, h1_7⟩ := ex_succ h1_6
  obtain ⟨v8, vr8, rfl, h1_8⟩ := ex_succ h1_7
  obtain ⟨v9, vr9, rfl, h1_9⟩ := ex_succ h1_8
  obtain ⟨v10, vr10, rfl, h1_10⟩ := ex_succ h1_9
  obtain rfl := List.length_eq_zero_iff.mp h1_10
  obtain ⟨x0, xr0, rfl, h2_0⟩ := ex_succ h2
  obtain ⟨x1, xr1, rfl, h2_1⟩ := ex_succ h2_0
  obtain ⟨x2, xr2, rfl, h2_2⟩ := ex_succ h2_1
  obtain ⟨x3, xr3, rfl, h2_3⟩ := ex_succ h2_2
  obtain ⟨x4, xr4, rfl, h2_4⟩ := ex_succ h2_3
  obtain ⟨x5, xr5, rfl, h2_5⟩ := ex_succ h2_4
  obtain ⟨x6, xr6, rfl, h2_6⟩ := ex_succ h2_5
  obtain ⟨x7, xr7, rfl, h2_7⟩ := ex_succ h2_6
  obtain ⟨x8, xr8, rfl, h2_8⟩ := ex_succ h2_7
  obtain ⟨x9, xr9, rfl, h2_9⟩ := ex_succ h2_8
  obtain rfl := List.length_eq_zero_iff.mp h2_9
  kernel_rfl
theorem r4_4 (σ : List (Option SV)) (o : List MO) (h1 : σ.length = 11) (h2 : o.length = 13) : isTurn 11 16 L4 (turnM tg1 tb1 (rows.getD 4 .none) ⟨none :: some (.m 0) :: some (.d (.list (L4.map .str))) :: σ, o⟩) = true := by
  obtain ⟨v0, vr0, rfl, h1_0⟩ := ex_succ h1
  obtain ⟨v1, vr1, rfl, h1_1⟩ := ex_succ h1_0
  obtain ⟨v2, vr2, rfl, h1_2⟩ := ex_succ h1_1
  obtain ⟨v3, vr3, rfl, h1_3⟩ := ex_succ h1_2
  obtain ⟨v4, vr4, rfl, h1_4⟩ := ex_succ h1_3
  obtain ⟨v5, vr5, rfl, h1_5⟩ := ex_succ h1_4
  obtain ⟨v6, vr6, rfl, h1_6⟩ := ex_succ h1_5
  obtain ⟨v7, vr7, rfl, h1_7⟩ := ex_succ h1_6
  obtain ⟨v8, vr8, rfl, h1_8⟩ := ex_succ h1_7
  obtain ⟨v9, vr9, rfl, h1_9⟩ := ex_succ h1_8
  obtain ⟨v10, vr10, rfl, h1_10⟩ := ex_succ h1_9
  obtain rfl := List.length_eq_zero_iff.mp h1_10
  obtain ⟨x0, xr0, rfl, h2_0⟩ := ex_succ h2
  obtain ⟨x1, xr1, rfl, h2_1⟩ := ex_succ h2_0
  obtain ⟨x2, xr2, rfl, h2_2⟩ := ex_succ h2_1
  obtain ⟨x3, xr3, rfl, h2_3⟩ := ex_succ h2_2
  obtain ⟨x4, xr4, rfl, h2_4⟩ := ex_succ h2_3
  obtain ⟨x5, xr5, rfl, h2_5⟩ := ex_succ h2_4
  obtain ⟨x6, xr6, rfl, h2_6⟩ := ex_succ h2_5
  obtain ⟨x7, xr7, rfl, h2_7⟩ := ex_succ h2_6
  obtain ⟨x8, xr8, rfl, h2_8⟩ := ex_succ h2_7
  obtain ⟨x9, xr9, rfl, h2_9⟩ := ex_succ h2_8
  obtain ⟨x10, xr10, rfl, h2_10⟩ := ex_succ h2_9
  obtain ⟨x11, xr11, rfl, h2_11⟩ := ex_succ h2_10
  obtain ⟨x12, xr12, rfl, h2_12⟩ := ex_succ h2_11
  obtain rfl := List.length_eq_zero_iff.mp h2_12
  kernel_rfl
theorem r4_5 (σ : List (Option SV)) (o : List MO) (h1 : σ.length = 11) (h2 : o.length = 16) : isTurn 11 19 L4 (turnM tg1 tb1 (rows.getD 5 .none) ⟨none :: some (.m 0) :: some (.d (.list (L4.map .str))) :: σ, o⟩) = true := by
  obtain ⟨v0, vr0, rfl, h1_0⟩ := ex_succ h1
  obtain ⟨v1, vr1, rfl, h1_1⟩ := ex_succ h1_0
  obtain ⟨v2, vr2, rfl, h1_2⟩ := ex_succ h1_1
  obtain ⟨v3, vr3, rfl, h1_3⟩ := ex_succ h1_2
  obtain ⟨v4, vr4, rfl, h1_4⟩ := ex_succ h1_3
  obtain ⟨v5, vr5, rfl, h1_5⟩ := ex_succ h1_4
  obtain ⟨v6, vr6, rfl, h1_6⟩ := ex_succ h1_5
  obtain ⟨v7, vr7, rfl, h1_7⟩ := ex_succ h1_6
  obtain ⟨v8, vr8, rfl, h1_8⟩ := ex_succ h1_7
  obtain ⟨v9, vr9, rfl, h1_9⟩ := ex_succ h1_8
  obtain ⟨v10, vr10, rfl, h1_10⟩ := ex_succ h1_9
  obtain rfl := List.length_eq_zero_iff.mp h1_10
  obtain ⟨x0, xr0, rfl, h2_0⟩ := ex_succ h2
  obtain ⟨x1, xr1, rfl, h2_1⟩ := ex_succ h2_0
  obtain ⟨x2, xr2, rfl, h2_2⟩ := ex_succ h2_1
  obtain ⟨x3, xr3, rfl, h2_3⟩ := ex_succ h2_2
  obtain ⟨x4, xr4, rfl, h2_4⟩ := ex_succ h2_3
  obtain ⟨x5, xr5, rfl, h2_5⟩ := ex_succ h2_4
  obtain ⟨x6, xr6, rfl, h2_6⟩ := ex_succ h2_5
  obtain ⟨x7, xr7, rfl, h2_7⟩ := ex_succ h2_6
  obtain ⟨x8, xr8, rfl, h2_8⟩ := ex_succ h2_7
  obtain ⟨x9, xr9, rfl, h2_9⟩ := ex_succ h2_8
  obtain ⟨x10, xr10, rfl, h2_10⟩ := ex_succ h2_9
  obtain ⟨x11, xr11, rfl, h2_11⟩ := ex_succ h2_10
  obtain ⟨x12, xr12, rfl, h2_12⟩ := ex_succ h2_11
  obtain ⟨x13, xr13, rfl, h2_13⟩ := ex_succ h2_12
  obtain ⟨x14, xr14, rfl, h2_14⟩ := ex_succ h2_13
  obtain ⟨x15, xr15, rfl, h2_15⟩ := ex_succ h2_14
  obtain rfl := List.length_eq_zero_iff.mp h2_15
  kernel_rfl
theorem r4_6 (σ : List (Option SV)) (o : List MO) (h1 : σ.length = 11) (h2 : o.length = 19) : isTurn 11 22 L4 (turnM tg1 tb1 (rows.getD 6 .none) ⟨none :: some (.m 0) :: some (.d (.list (L4.map .str))) :: σ, o⟩) = true := by
  obtain ⟨v0, vr0, rfl, h1_0⟩ := ex_succ h1
  obtain ⟨v1, vr1, rfl, h1_1⟩ := ex_succ h1_0
  obtain ⟨v2, vr2, rfl, h1_2⟩ := ex_succ h1_1
  obtain ⟨v3, vr3, rfl, h1_3⟩ := ex_succ h1_2
  obtain ⟨v4, vr4, rfl, h1_4⟩ := ex_succ h1_3
  obtain ⟨v5, vr5, rfl, h1_5⟩ := ex_succ h1_4
  obtain ⟨v6, vr6, rfl, h1_6⟩ := ex_succ h1_5
  obtain ⟨v7, vr7, rfl, h1_7⟩ := ex_succ h1_6
  obtain ⟨v8, vr8, rfl, h1_8⟩ := ex_succ h1_7
  obtain ⟨v9, vr9, rfl, h1_9⟩ := ex_succ h1_8
  obtain ⟨v10, vr10, rfl, h1_10⟩ := ex_succ h1_9
  obtain rfl := List.length_eq_zero_iff.mp h1_10
  obtain ⟨x0, xr0, rfl, h2_0⟩ := ex_succ h2
  obtain ⟨x1, xr1, rfl, h2_1⟩ := ex_succ h2_0
  obtain ⟨x2, xr2, rfl, h2_2⟩ := ex_succ h2_1
  obtain ⟨x3, xr3, rfl, h2_3⟩ := ex_succ h2_2
  obtain ⟨x4, xr4, rfl, h2_4⟩ := ex_succ h2_3
  obtain ⟨x5, xr5, rfl, h2_5⟩ := ex_succ h2_4
  obtain ⟨x6, xr6, rfl, h2_6⟩ := ex_succ h2_5
  obtain ⟨x7, xr7, rfl, h2_7⟩ := ex_succ h2_6
  obtain ⟨x8, xr8, rfl, h2_8⟩ := ex_succ h2_7
  obtain ⟨x9, xr9, rfl, h2_9⟩ := ex_succ h2_8
  obtain ⟨x10, xr10, rfl, h2_10⟩ := ex_succ h2_9
  obtain ⟨x11, xr11, rfl, h2_11⟩ := ex_succ h2_10
  obtain ⟨x12, xr12, rfl, h2_12⟩ := ex_succ h2_11
  obtain ⟨x13, xr13, rfl, h2_13⟩ := ex_succ h2_12
  obtain ⟨x14, xr14, rfl, h2_14⟩ := ex_succ h2_13
  obtain ⟨x15, xr15, rfl, h2_15⟩ := ex_succ h2_14
  obtain ⟨x16, xr16, rfl, h2_16⟩ := ex_succ h2_15
  obtain ⟨x17, xr17, rfl, h2_17⟩ := ex_succ h2_16
  obtain ⟨x18, xr18, rfl, h2_18⟩ := ex_succ h2_17
  obtain rfl := List.length_eq_zero_iff.mp h2_18
  kernel_rfl
theorem r4_7 (σ : List (Option SV)) (o : List MO) (h1 : σ.length = 11) (h2 : o.length = 22) : isTurn 11 25 L4 (turnM tg1 tb1 (rows.getD 7 .none) ⟨none :: some (.m 0) :: some (.d (.list (L4.map .str))) :: σ, o⟩) = true := by
  obtain ⟨v0, vr0, rfl, h1_0⟩ := ex_succ h1
  obtain ⟨v1, vr1, rfl, h1_1⟩ := ex_succ h1_0
  obtain ⟨v2, vr2, rfl, h1_2⟩ := ex_succ h1_1
  obtain ⟨v3, vr3, rfl, h1_3⟩ := ex_succ h1_2
  obtain ⟨v4, vr4, rfl, h1_4⟩ := ex_succ h1_3
  obtain ⟨v5, vr5, rfl, h1_5⟩ := ex_succ h1_4
  obtain ⟨v6, vr6, rfl, h1_6⟩ := ex_succ h1_5
  obtain ⟨v7, vr7, rfl, h1_7⟩ := ex_succ h1_6
  obtain ⟨v8, vr8, rfl, h1_8⟩ := ex_succ h1_7
  obtain ⟨v9, vr9, rfl, h1_9⟩ := ex_succ h1_8
  obtain ⟨v10, vr10, rfl, h1_10⟩ := ex_succ h1_9
  obtain rfl := List.length_eq_zero_iff.mp h1_10
  obtain ⟨x0, xr0, rfl, h2_0⟩ := ex_succ h2
  obtain ⟨x1, xr1, rfl, h2_1⟩ := ex_succ h2_0
  obtain ⟨x2, xr2, rfl, h2_2⟩ := ex_succ h2_1
  obtain ⟨x3, xr3, rfl, h2_3⟩ := ex_succ h2_2
  obtain ⟨x4, xr4, rfl, h2_4⟩ := ex_succ h2_3
  obtain ⟨x5, xr5, rfl, h2_5⟩ := ex_succ h2_4
  obtain ⟨x6, xr6, rfl, h2_6⟩ := ex_succ h2_5
  obtain ⟨x7, xr7, rfl, h2_7⟩ := ex_succ h2_6
  obtain ⟨x8, xr8, rfl, h2_8⟩ := ex_succ h2_7
  obtain ⟨x9, xr9, rfl, h2_9⟩ := ex_succ h2_8
  obtain ⟨x10, xr10, rfl, h2_10⟩ := ex_succ h2_9
  obtain ⟨x11, xr11, rfl, h2_11⟩ := ex_succ h2_10
  obtain ⟨x12, xr12, rfl, h2_12⟩ := ex_succ h2_11
  obtain ⟨x13, xr13, rfl, h2_13⟩ := ex_succ h2_12
  obtain ⟨x14, xr14, rfl, h2_14⟩ := ex_succ h2_13
  obtain ⟨x15, xr15, rfl, h2_15⟩ := ex_succ h2_14
  obtain ⟨x16, xr16, rfl, h2_16⟩ := ex_succ h2_15
  obtain ⟨x17, xr17, rfl, h2_17⟩ := ex_succ h2_16
  obtain ⟨x18, xr18, rfl, h2_18⟩ := ex_succ h2_17
  obtain ⟨x19, xr19, rfl, h2_19⟩ := ex_succ h2_18
  obtain ⟨x20, xr20, rfl, h2_20⟩ := ex_succ h2_19
  obtain ⟨x21, xr21, rfl, h2_21⟩ := ex_succ h2_20
  obtain rfl := List.length_eq_zero_iff.mp h2_21
  kernel_rfl
theorem r4_8 (σ : List (Option SV)) (o : List MO) (h1 : σ.length = 11) (h2 : o.length = 25) : isTurn 11 28 L4 (turnM tg1 tb1 (rows.getD 8 .none) ⟨none :: some (.m 0) :: some (.d (.list (L4.map .str))) :: σ, o⟩) = true := by
  obtain ⟨v0, vr0, rfl, h1_0⟩ := ex_succ h1
  obtain ⟨v1, vr1, rfl, h1_1⟩ := ex_succ h1_0
  obtain ⟨v2, vr2, rfl, h1_2⟩ := ex_succ h1_1
  obtain ⟨v3, vr3, rfl, h1_3⟩ := ex_succ h1_2
  obtain ⟨v4, vr4, rfl, h1_4⟩ := ex_succ h1_3
  obtain ⟨v5, vr5, rfl, h1_5⟩ := ex_succ h1_4
  obtain ⟨v6, vr6, rfl, h1_6⟩ := ex_succ h1_5
  obtain ⟨v7, vr7, rfl, h1_7⟩ := ex_succ h1_6
  obtain ⟨v8, vr8, rfl, h1_8⟩ := ex_succ h1_7
  obtain ⟨v9, vr9, rfl, h1_9⟩ := ex_succ h1_8
  obtain ⟨v10, vr10, rfl, h1_10⟩ := ex_succ h1_9
  obtain rfl := List.length_eq_zero_iff.mp h1_10
  obtain ⟨x0, xr0, rfl, h2_0⟩ := ex_succ h2
  obtain ⟨x1, xr1, rfl, h2_1⟩ := ex_succ h2_0
  obtain ⟨x2, xr2, rfl, h2_2⟩ := ex_succ h2_1
  obtain ⟨x3, xr3, rfl, h2_3⟩ := ex_succ h2_2
  obtain ⟨x4, xr4, rfl, h2_4⟩ := ex_succ h2_3
  obtain ⟨x5, xr5, rfl, h2_5⟩ := ex_succ h2_4
  obtain ⟨x6, xr6, rfl, h2_6⟩ := ex_succ h2_5
  obtain ⟨x7, xr7, rfl, h2_7⟩ := ex_succ h2_6
  obtain ⟨x8, xr8, rfl, h2_8⟩ := ex_succ h2_7
  obtain ⟨x9, xr9, rfl, h2_9⟩ := ex_succ h2_8
  obtain ⟨x10, xr10, rfl, h2_10⟩ := ex_succ h2_9
  obtain ⟨x11, xr11, rfl, h2_11⟩ := ex_succ h2_10
  obtain ⟨x12, xr12, rfl, h2_12⟩ := ex_succ h2_11
  obtain ⟨x13, xr13, rfl, h2_13⟩ := ex_succ h2_12
  obtain ⟨x14, xr14, rfl, h2_14⟩ := ex_succ h2_13
  obtain ⟨x15, xr15, rfl, h2_15⟩ := ex_succ h2_14
  obtain ⟨x16, xr16, rfl, h2_16⟩ := ex_succ h2_15
  obtain ⟨x17, xr17, rfl, h2_17⟩ := ex_succ h2_16
  obtain ⟨x18, xr18, rfl, h2_18⟩ := ex_succ h2_17
  obtain ⟨x19, xr19, rfl, h2_19⟩ := ex_succ h2_18
  obtain ⟨x20, xr20, rfl, h2_20⟩ := ex_succ h2_19
  obtain ⟨x21, xr21, rfl, h2_21⟩ := ex_succ h2_20
  obtain ⟨x22, xr22, rfl, h2_22⟩ := ex_succ h2_21
  obtain ⟨x23, xr23, rfl, h2_23⟩ := ex_succ h2_22
  obtain ⟨x24, xr24, rfl, h2_24⟩ := ex_succ h2_23
  obtain rfl := List.length_eq_zero_iff.mp h2_24
  kernel_rfl
theorem r4_9 (σ : List (Option SV)) (o : List MO) (h1 : σ.length = 11) (h2 : o.length = 28) : isTurn 11 31 L4 (turnM tg1 tb1 (rows.getD 9 .none) ⟨none :: some (.m 0) :: some (.d (.list (L4.map .str))) :: σ, o⟩) = true := by
  obtain ⟨v0, vr0, rfl, h1_0⟩ := ex_succ h1
  obtain ⟨v1, vr1, rfl, h1_1⟩ := ex_succ h1_0
  obtain ⟨v2, vr2, rfl, h1_2⟩ := ex_succ h1_1
  obtain ⟨v3, vr3, rfl, h1_3⟩ := ex_succ h1_2
  obtain ⟨v4, vr4, rfl, h1_4⟩ := ex_succ h1_3
  obtain ⟨v5, vr5, rfl, h1_5⟩ := ex_succ h1_4
  obtain ⟨v6, vr6, rfl, h1_6⟩ := ex_succ h1_5
  obtain ⟨v7, vr7, rfl, h1_7⟩ := ex_succ h1_6
  obtain ⟨v8, vr8, rfl, h1_8⟩ := ex_succ h1_7
  obtain ⟨v9, vr9, rfl, h1_9⟩ := ex_succ h1_8
  obtain ⟨v10, vr10, rfl, h1_10⟩ := ex_succ h1_9
  obtain rfl := List.length_eq_zero_iff.mp h1_10
  obtain ⟨x0, xr0, rfl, h2_0⟩ := ex_succ h2
  obtain ⟨x1, xr1, rfl, h2_1⟩ := ex_succ h2_0
  obtain ⟨x2, xr2, rfl, h2_2⟩ := ex_succ h2_1
  obtain ⟨x3, xr3, rfl, h2_3⟩ := ex_succ h2_2
  obtain ⟨x4, xr4, rfl, h2_4⟩ := ex_succ h2_3
  obtain ⟨x5, xr5, rfl, h2_5⟩ := ex_succ h2_4
  obtain ⟨x6, xr6, rfl, h2_6⟩ := ex_succ h2_5
  obtain ⟨x7, xr7, rfl, h2_7⟩ := ex_succ h2_6
  obtain ⟨x8, xr8, rfl, h2_8⟩ := ex_succ h2_7
  obtain ⟨x9, xr9, rfl, h2_9⟩ := ex_succ h2_8
  obtain ⟨x10, xr10, rfl, h2_10⟩ := ex_succ h2_9
  obtain ⟨x11, xr11, rfl, h2_11⟩ := ex_succ h2_10
  obtain ⟨x12, xr12, rfl, h2_12⟩ := ex_succ h2_11
  obtain ⟨x13, xr13, rfl, h2_13⟩ := ex_succ h2_12
  obtain ⟨x14, xr14, rfl, h2_14⟩ := ex_succ h2_13
  obtain ⟨x15, xr15, rfl, h2_15⟩ := ex_succ h2_14
  obtain ⟨x16, xr16, rfl, h2_16⟩ := ex_succ h2_15
  obtain ⟨x17, xr17, rfl, h2_17⟩ := ex_succ h2_16
  obtain ⟨x18, xr18, rfl, h2_18⟩ := ex_succ h2_17
  obtain ⟨x19, xr19, rfl, h2_19⟩ := ex_succ h2_18
  obtain ⟨x20, xr20, rfl, h2_20⟩ := ex_succ h2_19
  obtain ⟨x21, xr21, rfl, h2_21⟩ := ex_succ h2_20
  obtain ⟨x22, xr22, rfl, h2_22⟩ := ex_succ h2_21
  obtain ⟨x23, xr23, rfl, h2_23⟩ := ex_succ h2_22
  obtain ⟨x24, xr24, rfl, h2_24⟩ := ex_succ h2_23
  obtain ⟨x25, xr25, rfl, h2_25⟩ := ex_succ h2_24
  obtain ⟨x26, xr26, rfl, h2_26⟩ := ex_succ h2_25
  obtain ⟨x27, xr27, rfl, h2_27⟩ := ex_succ h2_26
  obtain rfl := List.length_eq_zero_iff.mp h2_27
  kernel_rfl
theorem r4_10 (σ : List (Option SV)) (o : List MO) (h1 : σ.length = 11) (h2 : o.length = 31) : isTurn 11 34 L4 (turnM tg1 tb1 (rows.getD 10 .none) ⟨none :: some (.m 0) :: some (.d (.list (L4.map .str))) :: σ, o⟩) = true := by
  obtain ⟨v0, vr0, rfl, h1_0⟩ := ex_succ h1
  obtain ⟨v1, vr1, rfl, h1_1⟩ := ex_succ h1_0
  obtain ⟨v2, vr2, rfl, h1_2⟩ := ex_succ h1_1
  obtain ⟨v3, vr3, rfl, h1_3⟩ := ex_succ h1_2
  obtain ⟨v4, vr4, rfl, h1_4⟩ := ex_succ h1_3
  obtain ⟨v5, vr5, rfl, h1_5⟩ := ex_succ h1_4
  obtain ⟨v6, vr6, rfl, h1_6⟩ := ex_succ h1_5
  obtain ⟨v7, vr7, rfl, h1_7⟩ := ex_succ h1_6
  obtain ⟨v8, vr8, rfl, h1_8⟩ := ex_succ h1_7
  obtain ⟨v9, vr9, rfl, h1_9⟩ := ex_succ h1_8
  obtain ⟨v10, vr10, rfl, h1_10⟩ := ex_succ h1_9
  obtain rfl := List.length_eq_zero_iff.mp h1_10
  obtain ⟨x0, xr0, rfl, h2_0⟩ := ex_succ h2
  obtain ⟨x1, xr1, rfl, h2_1⟩ := ex_succ h2_0
  obtain ⟨x2, xr2, rfl, h2_2⟩ := ex_succ h2_1
  obtain ⟨x3, xr3, rfl, h2_3⟩ := ex_succ h2_2
  obtain ⟨x4, xr4, rfl, h2_4⟩ := ex_succ h2_3
  obtain ⟨x5, xr5, rfl, h2_5⟩ := ex_succ h2_4
  obtain ⟨x6, xr6, rfl, h2_6⟩ := ex_succ h2_5
  obtain ⟨x7, xr7, rfl, h2_7⟩ := ex_succ h2_6
  obtain ⟨x8, xr8, rfl, h2_8⟩ := ex_succ h2_7
  obtain ⟨x9, xr9, rfl, h2_9⟩ := ex_succ h2_8
  obtain ⟨x10, xr10, rfl, h2_10⟩ := ex_succ h2_9
  obtain ⟨x11, xr11, rfl, h2_11⟩ := ex_succ h2_10
  obtain ⟨x12, xr12, rfl, h2_12⟩ := ex_succ h2_11
  obtain ⟨x13, xr13, rfl, h2_13⟩ := ex_succ h2_12
  obtain ⟨x14, xr14, rfl, h2_14⟩ := ex_succ h2_13
  obtain ⟨x15, xr15, rfl, h2_15⟩ := ex_succ h2_14
  obtain ⟨x16, xr16, rfl, h2_16⟩ := ex_succ h2_15
  obtain ⟨x17, xr17, rfl, h2_17⟩ := ex_succ h2_16
  obtain ⟨x18, xr18, rfl, h2_18⟩ := ex_succ h2_17
  obtain ⟨x19, xr19, rfl, h2_19⟩ := ex_succ h2_18
  obtain ⟨x20, xr20, rfl, h2_20⟩ := ex_succ h2_19
  obtain ⟨x21, xr21, rfl, h2_21⟩ := ex_succ h2_20
  obtain ⟨x22, xr22, rfl, h2_22⟩ := ex_succ h2_21
  obtain ⟨x23, xr23, rfl, h2_23⟩ := ex_succ h2_22
  obtain ⟨x24, xr24, rfl, h2_24⟩ := ex_succ h2_23
  obtain ⟨x25, xr25, rfl, h2_25⟩ := ex_succ h2_24
  obtain ⟨x26, xr26, rfl, h2_26⟩ := ex_succ h2_25
  obtain ⟨x27, xr27, rfl, h2_27⟩ := ex_succ h2_26
  obtain ⟨x28, xr28, rfl, h2_28⟩ := ex_succ h2_27
  obtain ⟨x29, xr29, rfl, h2_29⟩ := ex_succ h2_28
  obtain ⟨x30, xr30, rfl, h2_30⟩ := ex_succ h2_29
  obtain rfl := List.length_eq_zero_iff.mp h2_30
  kernel_rfl
theorem r4_11 (σ : List (Option SV)) (o : List MO) (h1 : σ.length = 11) (h2 : o.length = 34) : isTurn 11 37 L4 (turnM tg1 tb1 (rows.getD 11 .none) ⟨none :: some (.m 0) :: some (.d (.list (L4.map .str))) :: σ, o⟩) = true := by
  obtain ⟨v0, vr0, rfl, h1_0⟩ := ex_succ h1
  obtain ⟨v1, vr1, rfl, h1_1⟩ := ex_succ h1_0
  obtain ⟨v2, vr2, rfl, h1_2⟩ := ex_succ h1_1
  obtain ⟨v3, vr3, rfl, h1_3⟩ := ex_succ h1_2
  obtain ⟨v4, vr4, rfl, h1_4⟩ := ex_succ h1_3
  obtain ⟨v5, vr5, rfl, h1_5⟩ := ex_succ h1_4
  obtain ⟨v6, vr6, rfl, h1_6⟩ := ex_succ h1_5
  obtain ⟨v7, vr7, rfl, h1_7⟩ := ex_succ h1_6
  obtain ⟨v8, vr8, rfl, h1_8⟩ := ex_succ h1_7
  obtain ⟨v9, vr9, rfl, h1_9⟩ := ex_succ h1_8
  obtain ⟨v10, vr10, rfl, h1_10⟩ := ex_succ h1_9
  obtain rfl := List.length_eq_zero_iff.mp h1_10
  obtain ⟨x0, xr0, rfl, h2_0⟩ := ex_succ h2
  obtain ⟨x1, xr1, rfl, h2_1⟩ := ex_succ h2_0
  obtain ⟨x2, xr2, rfl, h2_2⟩ := ex_succ h2_1
  obtain ⟨x3, xr3, rfl, h2_3⟩ := ex_succ h2_2
  obtain ⟨x4, xr4, rfl, h2_4⟩ := ex_succ h2_3
  obtain ⟨x5, xr5, rfl, h2_5⟩ := ex_succ h2_4
  obtain ⟨x6, xr6, rfl, h2_6⟩ := ex_succ h2_5
  obtain ⟨x7, xr7, rfl, h2_7⟩ := ex_succ h2_6
  obtain ⟨x8, xr8, rfl, h2_8⟩ := ex_succ h2_7
  obtain ⟨x9, xr9, rfl, h2_9⟩ := ex_succ h2_8
  obtain ⟨x10, xr10, rfl, h2_10⟩ := ex_succ h2_9
  obtain ⟨x11, xr11, rfl, h2_11⟩ := ex_succ h2_10
  obtain ⟨x12, xr12, rfl, h2_12⟩ := ex_succ h2_11
  obtain ⟨x13, xr13, rfl, h2_13⟩ := ex_succ h2_12
  obtain ⟨x14, xr14, rfl, h2_14⟩ := ex_succ h2_13
  obtain ⟨x15, xr15, rfl, h2_15⟩ := ex_succ h2_14
  obtain ⟨x16, xr16, rfl, h2_16⟩ := ex_succ h2_15
  obtain ⟨x17, xr17, rfl, h2_17⟩ := ex_succ h2_16
  obtain ⟨x18, xr18, rfl, h2_18⟩ := ex_succ h2_17
  obtain ⟨x19, xr19, rfl, h2_19⟩ := ex_succ h2_18
  obtain ⟨x20, xr20, rfl, h2_20⟩ := ex_succ h2_19
  obtain ⟨x21, xr21, rfl, h2_21⟩ := ex_succ h2_20
  obtain ⟨x22, xr22, rfl, h2_22⟩ := ex_succ h2_21
  obtain ⟨x23, xr23, rfl, h2_23⟩ := ex_succ h2_22
  obtain ⟨x24, xr24, rfl, h2_24⟩ := ex_succ h2_23
  obtain ⟨x25, xr25, rfl, h2_25⟩ := ex_succ h2_24
  obtain ⟨x26, xr26, rfl, h2_26⟩ := ex_succ h2_25
  obtain ⟨x27, xr27, rfl, h2_27⟩ := ex_succ h2_26
  obtain ⟨x28, xr28, rfl, h2_28⟩ := ex_succ h2_27
  obtain ⟨x29, xr29, rfl, h2_29⟩ := ex_succ h2_28
  obtain ⟨x30, xr30, rfl, h2_30⟩ := ex_succ h2_29
  obtain ⟨x31, xr31, rfl, h2_31⟩ := ex_succ h2_30
  obtain ⟨x32, xr32, rfl, h2_32⟩ := ex_succ h2_31
  obtain ⟨x33, xr33, rfl, h2_33⟩ := ex_succ h2_32
  obtain rfl := List.length_eq_zero_iff.mp h2_33
  kernel_rfl
theorem r4_12 (σ : List (Option SV)) (o : List MO) (h1 : σ.length = 11) (h2 : o.length = 37) : isTurn 11 40 L4 (turnM tg1 tb1 (rows.getD 12 .none) ⟨none :: some (.m 0) :: some (.d (.list (L4.map .str))) :: σ, o⟩) = true := by
  obtain ⟨v0, vr0, rfl, h1_0⟩ := ex_succ h1
  obtain ⟨v1, vr1, rfl, h1_1⟩ := ex_succ h1_0
  obtain ⟨v2, vr2, rfl, h1_2⟩ := ex_succ h1_1
  obtain ⟨v3, vr3, rfl, h1_3⟩ := ex_succ h1_2
  obtain ⟨v4, vr4, rfl, h1_4⟩ := ex_succ h1_3
  obtain ⟨v5, vr5, rfl, h1_5⟩ := ex_succ h1_4
  obtain ⟨v6, vr6, rfl, h1_6⟩ := ex_succ h1_5
  obtain ⟨v7, vr7, rfl, h1_7⟩ := ex_succ h1_6
  obtain ⟨v8, vr8, rfl, h1_8⟩ := ex_succ h1_7
  obtain ⟨v9, vr9, rfl, h1_9⟩ := ex_succ h1_8
  obtain ⟨v10, vr10, rfl, h1_10⟩ := ex_succ h1_9
  obtain rfl := List.length_eq_zero_iff.mp h1_10
  obtain ⟨x0, xr0, rfl, h2_0⟩ := ex_succ h2
  obtain ⟨x1, xr1, rfl, h2_1⟩ := ex_succ h2_0
  obtain ⟨x2, xr2, rfl, h2_2⟩ := ex_succ h2_1
  obtain ⟨x3, xr3, rfl, h2_3⟩ := ex_succ h2_2
  obtain ⟨x4, xr4, rfl, h2_4⟩ := ex_succ h2_3
  obtain ⟨x5, xr5, rfl, h2_5⟩ := ex_succ h2_4
  obtain ⟨x6, xr6, rfl, h2_6⟩ := ex_succ h2_5
  obtain ⟨x7, xr7, rfl, h2_7⟩ := ex_succ h2_6
  obtain ⟨x8, xr8, rfl, h2_8⟩ := ex_succ h2_7
  obtain ⟨x9, xr9, rfl, h2_9⟩ := ex_succ h2_8
  obtain ⟨x10, xr10, rfl, h2_10⟩ := ex_succ h2_9
  obtain ⟨x11, xr11, rfl, h2_11⟩ := ex_succ h2_10
  obtain ⟨x12, xr12, rfl, h2_12⟩ := ex_succ h2_11
  obtain ⟨x13, xr13, rfl, h2_13⟩ := ex_succ h2_12
  obtain ⟨x14, xr14, rfl, h2_14⟩ := ex_succ h2_13
  obtain ⟨x15, xr15, rfl, h2_15⟩ := ex_succ h2_14
  obtain ⟨x16, xr16, rfl, h2_16⟩ := ex_succ h2_15
  obtain ⟨x17, xr17, rfl, h2_17⟩ := ex_succ h2_16
  obtain ⟨x18, xr18, rfl, h2_18⟩ := ex_succ h2_17
  obtain ⟨x19, xr19, rfl, h2_19⟩ := ex_succ h2_18
  obtain ⟨x20, xr20, rfl, h2_20⟩ := ex_succ h2_19
  obtain ⟨x21, xr21, rfl, h2_21⟩ := ex_succ h2_20
  obtain ⟨x22, xr22, rfl, h2_22⟩ := ex_succ h2_21
  obtain ⟨x23, xr23, rfl, h2_23⟩ := ex_succ h2_22
  obtain ⟨x24, xr24, rfl, h2_24⟩ := ex_succ h2_23
  obtain ⟨x25, xr25, rfl, h2_25⟩ := ex_succ h2_24
  obtain ⟨x26, xr26, rfl, h2_26⟩ := ex_succ h2_25
  obtain ⟨x27, xr27, rfl, h2_27⟩ := ex_succ h2_26
  obtain ⟨x28, xr28, rfl, h2_28⟩ := ex_succ h2_27
  obtain ⟨x29, xr29, rfl, h2_29⟩ := ex_succ h2_28
  obtain ⟨x30, xr30, rfl, h2_30⟩ := ex_succ h2_29
  obtain ⟨x31, xr31, rfl, h2_31⟩ := ex_succ h2_30
  obtain ⟨x32, xr32, rfl, h2_32⟩ := ex_succ h2_31
  obtain ⟨x33, xr33, rfl, h2_33⟩ := ex_succ h2_32
  obtain ⟨x34, xr34, rfl, h2_34⟩ := ex_succ h2_33
  obtain ⟨x35, xr35, rfl, h2_35⟩ := ex_succ h2_34
  obtain ⟨x36, xr36, rfl, h2_36⟩ := ex_succ h2_35
  obtain rfl := List.length_eq_zero_iff.mp h2_36
  kernel_rfl
theorem rest4 (σ : List (Option SV)) (o : List MO) (h1 : σ.length = 11) (h2 : o.length = 40) : isRt (m_law_2 ⟨none :: some (.m 0) :: some (.d (.list (L4.map .str))) :: σ, o⟩) = true := by
  obtain ⟨v0, vr0, rfl, h1_0⟩ := ex_succ h1
  obtain ⟨v1, vr1, rfl, h1_1⟩ := ex_succ h1_0
  obtain ⟨v2, vr2, rfl, h1_2⟩ := ex_succ h1_1
  obtain ⟨v3, vr3, rfl, h1_3⟩ := ex_succ h1_2
  obtain ⟨v4, vr4, rfl, h1_4⟩ := ex_succ h1_3
  obtain ⟨v5, vr5, rfl, h1_5⟩ := ex_succ h1_4
  obtain ⟨v6, vr6, rfl, h1_6⟩ := ex_succ h1_5
  obtain ⟨v7, vr7, rfl, h1_7⟩ := ex_succ h1_6
  obtain ⟨v8, vr8, rfl, h1_8⟩ := ex_succ h1_7
  obtain ⟨v9, vr9, rfl, h1_9⟩ := ex_succ h1_8
  obtain ⟨v10, vr10, rfl, h1_10⟩ := ex_succ h1_9
  obtain rfl := List.length_eq_zero_iff.mp h1_10
  obtain ⟨x0, xr0, rfl, h2_0⟩ := ex_succ h2
  obtain ⟨x1, xr1, rfl, h2_1⟩ := ex_succ h2_0
  obtain ⟨x2, xr2, rfl, h2_2⟩ := ex_succ h2_1
  obtain ⟨x3, xr3, rfl, h2_3⟩ := ex_succ h2_2
  obtain ⟨x4, xr4, rfl, h2_4⟩ := ex_succ h2_3
  obtain ⟨x5, xr5, rfl, h2_5⟩ := ex_succ h2_4
  obtain ⟨x6, xr6, rfl, h2_6⟩ := ex_succ h2_5
  obtain ⟨x7, xr7, rfl, h2_7⟩ := ex_succ h2_6
  obtain ⟨x8, xr8, rfl, h2_8⟩ := ex_succ h2_7
  obtain ⟨x9, xr9, rfl, h2_9⟩ := ex_succ h2_8
  obtain ⟨x10, xr10, rfl, h2_10⟩ := ex_succ h2_9
  obtain ⟨x11, xr11, rfl, h2_11⟩ := ex_succ h2_10
  obtain ⟨x12, xr12, rfl, h2_12⟩ := ex_succ h2_11
  obtain ⟨x13, xr13, rfl, h2_13⟩ := ex_succ h2_12
  obtain ⟨x14, xr14, rfl, h2_14⟩ := ex_succ h2_13
  obtain ⟨x15, xr15, rfl, h2_15⟩ := ex_succ h2_14
  obtain ⟨x16, xr16, rfl, h2_16⟩ := ex_succ h2_15
  obtain ⟨x17, xr17, rfl, h2_17⟩ := ex_succ h2_16
  obtain ⟨x18, xr18, rfl, h2_18⟩ := ex_succ h2_17
  obtain ⟨x19, xr19, rfl, h2_19⟩ := ex_succ h2_18
  obtain ⟨x20, xr20, rfl, h2_20⟩ := ex_succ h2_19
  obtain ⟨x21, xr21, rfl, h2_21⟩ := ex_succ h2_20
  obtain ⟨x22, xr22, rfl, h2_22⟩ := ex_succ h2_21
  obtain ⟨x23, xr23, rfl, h2_23⟩ := ex_succ h2_22
  obtain ⟨x24, xr24, rfl, h2_24⟩ := ex_succ h2_23
  obtain ⟨x25, xr25, rfl, h2_25⟩ := ex_succ h2_24
  obtain ⟨x26, xr26, rfl, h2_26⟩ := ex_succ h2_25
  obtain ⟨x27, xr27, rfl, h2_27⟩ := ex_succ h2_26
  obtain ⟨x28, xr28, rfl, h2_28⟩ := ex_succ h2_27
  obtain ⟨x29, xr29, rfl, h2_29⟩ := ex_succ h2_28
  obtain ⟨x30, xr30, rfl, h2_30⟩ := ex_succ h2_29
  obtain ⟨x31, xr31, rfl, h2_31⟩ := ex_succ h2_30
  obtain ⟨x32, xr32, rfl, h2_32⟩ := ex_succ h2_31
  obtain ⟨x33, xr33, rfl, h2_33⟩ := ex_succ h2_32
  obtain ⟨x34, xr34, rfl, h2_34⟩ := ex_succ h2_33
  obtain ⟨x35, xr35, rfl, h2_35⟩ := ex_succ h2_34
  obtain ⟨x36, xr36, rfl, h2_36⟩ := ex_succ h2_35
  obtain ⟨x37, xr37, rfl, h2_37⟩ := ex_succ h2_36
  obtain ⟨x38, xr38, rfl, h2_38⟩ := ex_succ h2_37
  obtain ⟨x39, xr39, rfl, h2_39⟩ := ex_succ h2_38
  obtain rfl := List.length_eq_zero_iff.mp h2_39
  kernel_rfl
theorem r4 (cs : List Int) (x l w : Int) : isRt (m_law_1 ⟨none :: some (.m 0) :: some (.d (.list (L4.map .str))) :: List.replicate 11 none, [fdO cs x l w]⟩) = true := by
  obtain ⟨σ, o, e, h1, h2⟩ := rows_ok (g := tg1) (b := tb1) (im := im1) (n := 11) (c := 3) (k0 := 1) (L := L4) (items := rows) rows_im (σ := List.replicate 11 none) (o := [fdO cs x l w]) List.length_replicate rfl fun i hi σ o h1 h2 => by
    rw [rows_len] at hi
    match i, hi with
    | 0, _ => exact r4_0 σ o h1 h2
    | 1, _ => exact r4_1 σ o h1 h2
    | 2, _ => exact r4_2 σ o h1 h2
    | 3, _ => exact r4_3 σ o h1 h2
    | 4, _ => exact r4_4 σ o h1 h2
    | 5, _ => exact r4_5 σ o h1 h2
    | 6, _ => exact r4_6 σ o h1 h2
    | 7, _ => exact r4_7 σ o h1 h2
    | 8, _ => exact r4_8 σ o h1 h2
    | 9, _ => exact r4_9 σ o h1 h2
    | 10, _ => exact r4_10 σ o h1 h2
    | 11, _ => exact r4_11 σ o h1 h2
    | 12, _ => exact r4_12 σ o h1 h2
    | k + 13, h => omega
  rw [rows_len] at h2
  have e2 : m_law_1 ⟨none :: some (.m 0) :: some (.d (.list (L4.map .str))) :: List.replicate 11 none, [fdO cs x l w]⟩ = m_law_2 ⟨none :: some (.m 0) :: some (.d (.list (L4.map .str))) :: σ, o⟩ := mSeq_nx e
  rw [e2]
  exact rest4 σ o h1 h2
end
end H52

namespace H52
noncomputable section
open PySem PySem.Spec PyProof.Rows L2 RZ AP
variable [Tbls]
theorem r5_0 (σ : List (Option SV)) (o : List MO) (h1 : σ.length = 11) (h2 : o.length = 1) : isTurn 11 4 L5 (turnM tg1 tb1 (rows.getD 0 .none) ⟨none :: some (.m 0) :: some (.d (.list (L5.map .str))) :: σ, o⟩) = true := by
  obtain ⟨v0, vr0, rfl, h1_0⟩ := ex_succ h1
  obtain ⟨v1, vr1, rfl, h1_1⟩ := ex_succ h1_0
  obtain ⟨v2, vr2, rfl, h1_2⟩ := ex_succ h1_1
  obtain ⟨v3, vr3, rfl, h1_3⟩ := ex_succ h1_2
  obtain ⟨v4, vr4, rfl, h1_4⟩ := ex_succ h1_3
  obtain ⟨v5, vr5, rfl, h1_5⟩ := ex_succ h1_4
  obtain ⟨v6, vr6, rfl, h1_6⟩ := ex_succ h1_5
  obtain ⟨v7, vr7, rfl, h1_7⟩ := ex_succ h1_6
  obtain ⟨v8, vr8, rfl, h1_8⟩ := ex_succ h1_7
  obtain ⟨v9, vr9, rfl, h1_9⟩ := ex_succ h1_8
  obtain ⟨v10, vr10, rfl, h1_10⟩ := ex_succ h1_9
  obtain rfl := List.length_eq_zero_iff.mp h1_10
  obtain ⟨x0, xr0, rfl, h2_0⟩ := ex_succ h2
  obtain rfl := List.length_eq_zero_iff.mp h2_0
  kernel_rfl
theorem r5_1 (σ : List (Option SV)) (o : List MO) (h1 : σ.length = 11) (h2 : o.length = 4) : isTurn 11 7 L5 (turnM tg1 tb1 (rows.getD 1 .none) ⟨none :: some (.m 0) :: some (.d (.list (L5.map .str))) :: σ, o⟩) = true := by
  obtain ⟨v0, vr0, rfl, h1_0⟩ := ex_succ h1
  obtain ⟨v1, vr1, rfl, h1_1⟩ := ex_succ h1_0
  obtain ⟨v2, vr2, rfl, h1_2⟩ := ex_succ h1_1
  obtain ⟨v3, vr3, rfl, h1_3⟩ := ex_succ h1_2
  obtain ⟨v4, vr4, rfl, h1_4⟩ := ex_succ h1_3
  obtain ⟨v5, vr5, rfl, h1_5⟩ := ex_succ h1_4
  obtain ⟨v6, vr6, rfl, h1_6⟩ := ex_succ h1_5
  obtain ⟨v7, vr7, rfl, h1_7⟩ := ex_succ h1_6
  obtain ⟨v8, vr8, rfl, h1_8⟩ := ex_succ h1_7
  obtain ⟨v9, vr9, rfl, h1_9⟩ := ex_succ h1_8
  obtain ⟨v10, vr10, rfl, h1_10⟩ := ex_succ h1_9
  obtain rfl := List.length_eq_zero_iff.mp h1_10
  obtain ⟨x0, xr0, rfl, h2_0⟩ := ex_succ h2
  obtain ⟨x1, xr1, rfl, h2_1⟩ := ex_succ h2_0
  obtain ⟨x2, xr2, rfl, h2_2⟩ := ex_succ h2_1
  obtain ⟨x3, xr3, rfl, h2_3⟩ := ex_succ h2_2
  obtain rfl := List.length_eq_zero_iff.mp h2_3
  kernel_rfl
theorem r5_2 (σ : List (Option SV)) (o : List MO) (h1 : σ.length = 11) (h2 : o.length = 7) : isTurn 11 10 L5 (turnM tg1 tb1 (rows.getD 2 .none) ⟨none :: some (.m 0) :: some (.d (.list (L5.map .str))) :: σ, o⟩) = true := by
  obtain ⟨v0, vr0, rfl, h1_0⟩ := ex_succ h1
  obtain ⟨v1, vr1, rfl, h1_1⟩ := ex_succ h1_0
  obtain ⟨v2, vr2, rfl, h1_2⟩ := ex_succ h1_1
  obtain ⟨v3, vr3, rfl, h1_3⟩ := ex_succ h1_2
  obtain ⟨v4, vr4, rfl, h1_4⟩ := ex_succ h1_3
  obtain ⟨v5, vr5, rfl, h1_5⟩ := ex_succ h1_4
  obtain ⟨v6, vr6, rfl, h1_6⟩ := ex_succ h1_5
  obtain ⟨v7, vr7, rfl, h1_7⟩ := ex_succ h1_6
  obtain ⟨v8, vr8, rfl, h1_8⟩ := ex_succ h1_7
  obtain ⟨v9, vr9, rfl, h1_9⟩ := ex_succ h1_8
  obtain ⟨v10, vr10, rfl, h1_10⟩ := ex_succ h1_9
  obtain rfl := List.length_eq_zero_iff.mp h1_10
  obtain ⟨x0, xr0, rfl, h2_0⟩ := ex_succ h2
  obtain ⟨x1, xr1, rfl, h2_1⟩ := ex_succ h2_0
  obtain ⟨x2, xr2, rfl, h2_2⟩ := ex_succ h2_1
  obtain ⟨x3, xr3, rfl, h2_3⟩ := ex_succ h2_2
  obtain ⟨x4, xr4, rfl, h2_4⟩ := ex_succ h2_3
  obtain ⟨x5, xr5, rfl, h2_5⟩ := ex_succ h2_4
  obtain ⟨x6, xr6, rfl, h2_6⟩ := ex_succ h2_5
  obtain rfl := List.length_eq_zero_iff.mp h2_6
  kernel_rfl
theorem r5_3 (σ : List (Option SV)) (o : List MO) (h1 : σ.length = 11) (h2 : o.length = 10) : isTurn 11 13 L5 (turnM tg1 tb1 (rows.getD 3 .none) ⟨none :: some (.m 0) :: some (.d (.list (L5.map .str))) :: σ, o⟩) = true := by
  obtain ⟨v0, vr0, rfl, h1_0⟩ := ex_succ h1
  obtain ⟨v1, vr1, rfl, h1_1⟩ := ex_succ h1_0
  obtain ⟨v2, vr2, rfl, h1_2⟩ := ex_succ h1_1
  obtain ⟨v3, vr3, rfl, h1_3⟩ := ex_succ h1_2
  obtain ⟨v4, vr4, rfl, h1_4⟩ := ex_succ h1_3
  obtain ⟨v5, vr5, rfl, h1_5⟩ := ex_succ h1_4
  obtain ⟨v6, vr6, rfl, h1_6⟩ := ex_succ h1_5
  obtain ⟨v7, vr7, rfl, h1_7⟩ := ex_succ h1_6
  obtain ⟨v8, vr8, rfl, h1_8⟩ := ex_succ h1_7
  obtain ⟨v9, vr9, rfl, h1_9⟩ := ex_succ h1_8
  obtain ⟨v10, vr10, rfl, h1_10⟩ := ex_succ h1_9
  obtain rfl := List.length_eq_zero_iff.mp h1_10
  obtain ⟨x0, xr0, rfl, h2_0⟩ := ex_succ h2
  obtain ⟨x1, xr1, rfl, h2_1⟩ := ex_succ h2_0
  obtain ⟨x2, xr2, rfl, h2_2⟩ := ex_succ h2_1
  obtain ⟨x3, xr3, rfl, h2_3⟩ := ex_succ h2_2
  obtain ⟨x4, xr4, rfl, h2_4⟩ := ex_succ h2_3
  obtain ⟨x5, xr5, rfl, h2_5⟩ := ex_succ h2_4
  obtain ⟨x6, xr6, rfl, h2_6⟩ := ex_succ h2_5
  obtain ⟨x7, xr7, rfl, h2_7⟩ := ex_succ h2_6
  obtain ⟨x8, xr8, rfl, h2_8⟩ := ex_succ h2_7
  obtain ⟨x9, xr9, rfl, h2_9⟩ := ex_succ h2_8
  obtain rfl := List.length_eq_zero_iff.mp h2_9
  kernel_rfl
theorem r5_4 (σ : List (Option SV)) (o : List MO) (h1 : σ.length = 11) (h2 : o.length = 13) : isTurn 11 16 L5 (turnM tg1 tb1 (rows.getD 4 .none) ⟨none :: some (.m 0) :: some (.d (.list (L5.map .str))) :: σ, o⟩) = true := by
  obtain ⟨v0, vr0, rfl, h1_0⟩ := ex_succ h1
  obtain ⟨v1, vr1, rfl, h1_1⟩ := ex_succ h1_0
  obtain ⟨v2, vr2, rfl, h1_2⟩ := ex_succ h1_1
  obtain ⟨v3, vr3, rfl, h1_3⟩ := ex_succ h1_2
  obtain ⟨v4, vr4, rfl, h1_4⟩ := ex_succ h1_3
  obtain ⟨v5, vr5, rfl, h1_5⟩ := ex_succ h1_4
  obtain ⟨v6, vr6, rfl, h1_6⟩ := ex_succ h1_5
  obtain ⟨v7, vr7, rfl, h1_7⟩ := ex_succ h1_6
  obtain ⟨v8, vr8, rfl, h1_8⟩ := ex_succ h1_7
  obtain ⟨v9, vr9, rfl, h1_9⟩ := ex_succ h1_8
  obtain ⟨v10, vr10, rfl, h1_10⟩ := ex_succ h1_9
  obtain rfl := List.length_eq_zero_iff.mp h1_10
  obtain ⟨x0, xr0, rfl, h2_0⟩ := ex_succ h2
  obtain ⟨x1, xr1, rfl, h2_1⟩ := ex_succ h2_0
  obtain ⟨x2, xr2, rfl, h2_2⟩ := ex_succ h2_1
  obtain ⟨x3, xr3, rfl, h2_3⟩ := ex_succ h2_2
  obtain ⟨x4, xr4, rfl, h2_4⟩ := ex_succ h2_3
  obtain ⟨x5, xr5, rfl, h2_5⟩ := ex_succ h2_4
  obtain ⟨x6, xr6, rfl, h2_6⟩ := ex_succ h2_5
  obtain ⟨x7, xr7, rfl, h2_7⟩ := ex_succ h2_6
  obtain ⟨x8, xr8, rfl, h2_8⟩ := ex_succ h2_7
  obtain ⟨x9, xr9, rfl, h2_9⟩ := ex_succ h2_8
  obtain ⟨x10, xr10, rfl, h2_10⟩ := ex_succ h2_9
  obtain ⟨x11, xr11, rfl, h2_11⟩ := ex_succ h2_10
  obtain ⟨x12, xr12, rfl, h2_12⟩ := ex_succ h2_11
  obtain rfl := List.length_eq_zero_iff.mp h2_12
  kernel_rfl
theorem r5_5 (σ : List (Option SV)) (o : List MO) (h1 : σ.length = 11) (h2 : o.length = 16) : isTurn 11 19 L5 (turnM tg1 tb1 (rows.getD 5 .none) ⟨none :: some (.m 0) :: some (.d (.list (L5.map .str))) :: σ, o⟩) = true := by
  obtain ⟨v0, vr0, rfl, h1_0⟩ := ex_succ h1
  obtain ⟨v1, vr1, rfl, h1_1⟩ := ex_succ h1_0
  obtain ⟨v2, vr2, rfl, h1_2⟩ := ex_succ h1_1
  obtain ⟨v3, vr3, rfl, h1_3⟩ := ex_succ h1_2
  obtain ⟨v4, vr4, rfl, h1_4⟩ := ex_succ h1_3
  obtain ⟨v5, vr5, rfl, h1_5⟩ := ex_succ h1_4
  obtain ⟨v6, vr6, rfl, h1_6⟩ := ex_succ h1_5
  obtain ⟨v7, vr7, rfl, h1_7⟩ := ex_succ h1_6
  obtain ⟨v8, vr8, rfl, h1_8⟩ := ex_succ h1_7
  obtain ⟨v9, vr9, rfl, h1_9⟩ := ex_succ h1_8
  obtain ⟨v10, vr10, rfl, h1_10⟩ := ex_succ h1_9
  obtain rfl := List.length_eq_zero_iff.mp h1_10
  obtain ⟨x0, xr0, rfl, h2_0⟩ := ex_succ h2
  obtain ⟨x1, xr1, rfl, h2_1⟩ := ex_succ h2_0
  obtain ⟨x2, xr2, rfl, h2_2⟩ := ex_succ h2_1
  obtain ⟨x3, xr3, rfl, h2_3⟩ := ex_succ h2_2
  obtain ⟨x4, xr4, rfl, h2_4⟩ := ex_succ h2_3
  obtain ⟨x5, xr5, rfl, h2_5⟩ := ex_succ h2_4
  obtain ⟨x6, xr6, rfl, h2_6⟩ := ex_succ h2_5
  obtain ⟨x7, xr7, rfl, h2_7⟩ := ex_succ h2_6
  obtain ⟨x8, xr8, rfl, h2_8⟩ := ex_succ h2_7
  obtain ⟨x9, xr9, rfl, h2_9⟩ := ex_succ h2_8
  obtain ⟨x10, xr10, rfl, h2_10⟩ := ex_succ h2_9
  obtain ⟨x11, xr11, rfl, h2_11⟩ := ex_succ h2_10
  obtain ⟨x12, xr12, rfl, h2_12⟩ := ex_succ h2_11
  obtain ⟨x13, xr13, rfl, h2_13⟩ := ex_succ h2_12
  obtain ⟨x14, xr14, rfl, h2_14⟩ := ex_succ h2_13
  obtain ⟨x15, xr15, rfl, h2_15⟩ := ex_succ h2_14
  obtain rfl := List.length_eq_zero_iff.mp h2_15
  kernel_rfl
theorem r5_6 (σ : List (Option SV)) (o : List MO) (h1 : σ.length = 11) (h2 : o.length = 19) : isTurn 11 22 L5 (turnM tg1 tb1 (rows.getD 6 .none) ⟨none :: some (.m 0) :: some (.d (.list (L5.map .str))) :: σ, o⟩) = true := by
  obtain ⟨v0, vr0, rfl, h1_0⟩ := ex_succ h1
  obtain ⟨v1, vr1, rfl, h1_1⟩ := ex_succ h1_0
  obtain ⟨v2, vr2, rfl, h1_2⟩ := ex_succ h1_1
  obtain ⟨v3, vr3, rfl, h1_3⟩ := ex_succ h1_2
  obtain ⟨v4, vr4, rfl, h1_4⟩ := ex_succ h1_3
  obtain ⟨v5, vr5, rfl, h1_5⟩ := ex_succ h1_4
  obtain ⟨v6, vr6, rfl, h1_6⟩ := ex_succ h1_5
  obtain ⟨v7, vr7, rfl, h1_7⟩ := ex_succ h1_6
  obtain ⟨v8, vr8, rfl, h1_8⟩ := ex_succ h1_7
  obtain ⟨v9, vr9, rfl, h1_9⟩ := ex_succ h1_8
  obtain ⟨v10, vr10, rfl, h1_10⟩ := ex_succ h1_9
  obtain rfl := List.length_eq_zero_iff.mp h1_10
  obtain ⟨x0, xr0, rfl, h2_0⟩ := ex_succ h2
  obtain ⟨x1, xr1, rfl, h2_1⟩ := ex_succ h2_0
  obtain ⟨x2, xr2, rfl, h2_2⟩ := ex_succ h2_1
  obtain ⟨x3, xr3, rfl, h2_3⟩ := ex_succ h2_2
  obtain ⟨x4, xr4, rfl, h2_4⟩ := ex_succ h2_3
  obtain ⟨x5, xr5, rfl, h2_5⟩ := ex_succ h2_4
  obtain ⟨x6, xr6, rfl, h2_6⟩ := ex_succ h2_5
  obtain ⟨x7, xr7, rfl, h2_7⟩ := ex_succ h2_6
  obtain ⟨x8, xr8, rfl, h2_8⟩ := ex_succ h2_7
  obtain ⟨x9, xr9, rfl, h2_9⟩ := ex_succ h2_8
  obtain ⟨x10, xr10, rfl, h2_10⟩ := ex_succ h2_9
  obtain ⟨x11, xr11, rfl, h2_11⟩ := ex_succ h2_10
  obtain ⟨x12, xr12, rfl, h2_12⟩ := ex_succ h2_11
  obtain ⟨x13, xr13, rfl, h2_13⟩ := ex_succ h2_12
  obtain ⟨x14, xr14, rfl, h2_14⟩ := ex_succ h2_13
  obtain ⟨x15, xr15, rfl, h2_15⟩ := ex_succ h2_14
  obtain ⟨x16, xr16, rfl, h2_16⟩ := ex_succ h2_15
  obtain ⟨x17, xr17, rfl, h2_17⟩ := ex_succ h2_16
  obtain ⟨x18, xr18, rfl, h2_18⟩ := ex_succ h2_17
  obtain rfl := List.length_eq_zero_iff.mp h2_18
  kernel_rfl
theorem r5_7 (σ : List (Option SV)) (o : List MO) (h1 : σ.length = 11) (h2 : o.length = 22) : isTurn 11 25 L5 (turnM tg1 tb1 (rows.getD 7 .none) ⟨none :: some (.m 0) :: some (.d (.list (L5.map .str))) :: σ, o⟩) = true := by
  obtain ⟨v0, vr0, rfl, h1_0⟩ := ex_succ h1
  obtain ⟨v1, vr1, rfl, h1_1⟩ := ex_succ h1_0
  obtain ⟨v2, vr2, rfl, h1_2⟩ := ex_succ h1_1
  obtain ⟨v3, vr3, rfl, h1_3⟩ := ex_succ h1_2
  obtain ⟨v4, vr4, rfl, h1_4⟩ := ex_succ h1_3
  obtain ⟨v5, vr5, rfl, h1_5⟩ := ex_succ h1_4
  obtain ⟨v6, vr6, rfl, h1_6⟩ := ex_succ h1_5
  obtain ⟨v7, vr7, rfl, h1_7⟩ := ex_succ h1_6
  obtain ⟨v8, vr8, rfl, h1_8⟩ := ex_succ h1_7
  obtain ⟨v9, vr9, rfl, h1_9⟩ := ex_succ h1_8
  obtain ⟨v10, vr10, rfl, h1_10⟩ := ex_succ h1_9
  obtain rfl := List.length_eq_zero_iff.mp h1_10
  obtain ⟨x0, xr0, rfl, h2_0⟩ := ex_succ h2
  obtain ⟨x1, xr1, rfl, h2_1⟩ := ex_succ h2_0
  obtain ⟨x2, xr2, rfl, h2_2⟩ := ex_succ h2_1
  obtain ⟨x3, xr3, rfl, h2_3⟩ := ex_succ h2_2
  obtain ⟨x4, xr4, rfl, h2_4⟩ := ex_succ h2_3
  obtain ⟨x5, xr5, rfl, h2_5⟩ := ex_succ h2_4
  obtain ⟨x6, xr6, rfl, h2_6⟩ := ex_succ h2_5
  obtain ⟨x7, xr7, rfl, h2_7⟩ := ex_succ h2_6
  obtain ⟨x8, xr8, rfl, h2_8⟩ := ex_succ h2_7
  obtain ⟨x9, xr9, rfl, h2_9⟩ := ex_succ h2_8
  obtain ⟨x10, xr10, rfl, h2_10⟩ := ex_succ h2_9
  obtain ⟨x11, xr11, rfl, h2_11⟩ := ex_succ h2_10
  obtain ⟨x12, xr12, rfl, h2_12⟩ := ex_succ h2_11
  obtain ⟨x13, xr13, rfl, h2_13⟩ := ex_succ h2_12
  obtain ⟨x14, xr14, rfl, h2_14⟩ := ex_succ h2_13
  obtain ⟨x15, xr15, rfl, h2_15⟩ := ex_succ h2_14
  obtain ⟨x16, xr16, rfl, h2_16⟩ := ex_succ h2_15
  obtain ⟨x17, xr17, rfl, h2_17⟩ := ex_succ h2_16
  obtain ⟨x18, xr18, rfl, h2_18⟩ := ex_succ h2_17
  obtain ⟨x19, xr19, rfl, h2_19⟩ := ex_succ h2_18
  obtain ⟨x20, xr20, rfl, h2_20⟩ := ex_succ h2_19
  obtain ⟨x21, xr21, rfl, h2_21⟩ := ex_succ h2_20
  obtain rfl := List.length_eq_zero_iff.mp h2_21
  kernel_rfl
theorem r5_8 (σ : List (Option SV)) (o : List MO) (h1 : σ.length = 11) (h2 : o.length = 25) : isTurn 11 28 L5 (turnM tg1 tb1 (rows.getD 8 .none) ⟨none :: some (.m 0) :: some (.d (.list (L5.map .str))) :: σ, o⟩) = true := by
  obtain ⟨v0, vr0, rfl, h1_0⟩ := ex_succ h1
  obtain ⟨v1, vr1, rfl, h1_1⟩ := ex_succ h1_0
  obtain ⟨v2, vr2, rfl, h1_2⟩ := ex_succ h1_1
  obtain ⟨v3, vr3, rfl, h1_3⟩ := ex_succ h1_2
  obtain ⟨v4, vr4, rfl, h1_4⟩ := ex_succ h1_3
  obtain ⟨v5, vr5, rfl, h1_5⟩ := ex_succ h1_4
  obtain ⟨v6, vr6, rfl, h1_6⟩ := ex_succ h1_5
  obtain ⟨v7, vr7, rfl, h1_7⟩ := ex_succ h1_6
  obtain ⟨v8, vr8, rfl, h1_8⟩ := ex_succ h1_7
  obtain ⟨v9, vr9, rfl, h1_9⟩ := ex_succ h1_8
  obtain ⟨v10, vr10, rfl, h1_10⟩ := ex_succ h1_9
  obtain rfl := List.length_eq_zero_iff.mp h1_10
  obtain ⟨x0, xr0, rfl, h2_0⟩ := ex_succ h2
  obtain ⟨x1, xr1, rfl, h2_1⟩ := ex_succ h2_0
  obtain ⟨x2, xr2, rfl, h2_2⟩ := ex_succ h2_1
  obtain ⟨x3, xr3, rfl, h2_3⟩ := ex_succ h2_2
  obtain ⟨x4, xr4, rfl, h2_4⟩ := ex_succ h2_3
  obtain ⟨x5, xr5, rfl, h2_5⟩ := ex_succ h2_4
  obtain ⟨x6, xr6, rfl, h2_6⟩ := ex_succ h2_5
  obtain ⟨x7, xr7, rfl, h2_7⟩ := ex_succ h2_6
  obtain ⟨x8, xr8, rfl, h2_8⟩ := ex_succ h2_7
  obtain ⟨x9, xr9, rfl, h2_9⟩ := ex_succ h2_8
  obtain ⟨x10, xr10, rfl, h2_10⟩ := ex_succ h2_9
  obtain ⟨x11, xr11, rfl, h2_11⟩ := ex_succ h2_10
  obtain ⟨x12, xr12, rfl, h2_12⟩ := ex_succ h2_11
  obtain ⟨x13, xr13, rfl, h2_13⟩ := ex_succ h2_12
  obtain ⟨x14, xr14, rfl, h2_14⟩ := ex_succ h2_13
  obtain ⟨x15, xr15, rfl, h2_15⟩ := ex_succ h2_14
  obtain ⟨x16, xr16, rfl, h2_16⟩ := ex_succ h2_15
  obtain ⟨x17, xr17, rfl, h2_17⟩ := ex_succ h2_16
  obtain ⟨x18, xr18, rfl, h2_18⟩ := ex_succ h2_17
  obtain ⟨x19, xr19, rfl, h2_19⟩ := ex_succ h2_18
  obtain ⟨x20, xr20, rfl, h2_20⟩ := ex_succ h2_19
  obtain ⟨x21, xr21, rfl, h2_21⟩ := ex_succ h2_20
  obtain ⟨x22, xr22, rfl, h2_22⟩ := ex_succ h2_21
  obtain ⟨x23, xr23, rfl, h2_23⟩ := ex_succ h2_22
  obtain ⟨x24, xr24, rfl, h2_24⟩ := ex_succ h2_23
  obtain rfl := List.length_eq_zero_iff.mp h2_24
  kernel_rfl
theorem r5_9 (σ : List (Option SV)) (o : List MO) (h1 : σ.length = 11) (h2 : o.length = 28) : isTurn 11 31 L5 (turnM tg1 tb1 (rows.getD 9 .none) ⟨none :: some (.m 0) :: some (.d (.list (L5.map .str))) :: σ, o⟩) = true := by
  obtain ⟨v0, vr0, rfl, h1_0⟩ := ex_succ h1
  obtain ⟨v1, vr1, rfl, h1_1⟩ := ex_succ h1_0
  obtain ⟨v2, vr2, rfl, h1_2⟩ := ex_succ h1_1
  obtain ⟨v3, vr3, rfl, h1_3⟩ := ex_succ h1_2
  obtain ⟨v4, vr4, rfl, h1_4⟩ := ex_succ h1_3
  obtain ⟨v5, vr5, rfl, h1_5⟩ := ex_succ h1_4
  obtain ⟨v6, vr6, rfl, h1_6⟩ := ex_succ h1_5
  obtain ⟨v7, vr7, rfl, h1_7⟩ := ex_succ h1_6
  obtain ⟨v8, vr8, rfl, h1_8⟩ := ex_succ h1_7
  obtain ⟨v9, vr9, rfl, h1_9⟩ := ex_succ h1_8
  obtain ⟨v10, vr10, rfl, h1_10⟩ := ex_succ h1_9
  obtain rfl := List.length_eq_zero_iff.mp h1_10
  obtain ⟨x0, xr0, rfl, h2_0⟩ := ex_succ h2
  obtain ⟨x1, xr1, rfl, h2_1⟩ := ex_succ h2_0
  obtain ⟨x2, xr2, rfl, h2_2⟩ := ex_succ h2_1
  obtain ⟨x3, xr3, rfl, h2_3⟩ := ex_succ h2_2
  obtain ⟨x4, xr4, rfl, h2_4⟩ := ex_succ h2_3
  obtain ⟨x5, xr5, rfl, h2_5⟩ := ex_succ h2_4
  obtain ⟨x6, xr6, rfl, h2_6⟩ := ex_succ h2_5
  obtain ⟨x7, xr7, rfl, h2_7⟩ := ex_succ h2_6
  obtain ⟨x8, xr8, rfl, h2_8⟩ := ex_succ h2_7
  obtain ⟨x9, xr9, rfl, h2_9⟩ := ex_succ h2_8
  obtain ⟨x10, xr10, rfl, h2_10⟩ := ex_succ h2_9
  obtain ⟨x11, xr11, rfl, h2_11⟩ := ex_succ h2_10
  obtain ⟨x12, xr12, rfl, h2_12⟩ := ex_succ h2_11
  obtain ⟨x13, xr13, rfl, h2_13⟩ := ex_succ h2_12
  obtain ⟨x14, xr14, rfl, h2_14⟩ := ex_succ h2_13
  obtain ⟨x15, xr15, rfl, h2_15⟩ := ex_succ h2_14
  obtain ⟨x16, xr16, rfl, h2_16⟩ := ex_succ h2_15
  obtain ⟨x17, xr17, rfl, h2_17⟩ := ex_succ h2_16
  obtain ⟨x18, xr18, rfl, h2_18⟩ := ex_succ h2_17
  obtain ⟨x19, xr19, rfl, h2_19⟩ := ex_succ h2_18
  obtain ⟨x20, xr20, rfl, h2_20⟩ := ex_succ h2_19
  obtain ⟨x21, xr21, rfl, h2_21⟩ := ex_succ h2_20
  obtain ⟨x22, xr22, rfl, h2_22⟩ := ex_succ h2_21
  obtain ⟨x23, xr23, rfl, h2_23⟩ := ex_succ h2_22
  obtain ⟨x24, xr24, rfl, h2_24⟩ := ex_succ h2_23
  obtain ⟨x25, xr25, rfl, h2_25⟩ := ex_succ h2_24
  obtain ⟨x26, xr26, rfl, h2_26⟩ := ex_succ h2_25
  obtain ⟨x27, xr27, rfl, h2_27⟩ := ex_succ h2_26
  obtain rfl := List.length_eq_zero_iff.mp h2_27
  kernel_rfl
theorem r5_10 (σ : List (Option SV)) (o : List MO) (h1 : σ.length = 11) (h2 : o.length = 31) : isTurn 11 34 L5 (turnM tg1 tb1 (rows.getD 10 .none) ⟨none :: some (.m 0) :: some (.d (.list (L5.map .str))) :: σ, o⟩) = true := by
  obtain ⟨v0, vr0, rfl, h1_0⟩ := ex_succ h1
  obtain ⟨v1, vr1, rfl, h1_1⟩ := ex_succ h1_0
  obtain ⟨v2, vr2, rfl, h1_2⟩ := ex_succ h1_1
  obtain ⟨v3, vr3, rfl, h1_3⟩ := ex_succ h1_2
  obtain ⟨v4, vr4, rfl, h1_4⟩ := ex_succ h1_3
  obtain ⟨v5, vr5, rfl, h1_5⟩ := ex_succ h1_4
  obtain ⟨v6, vr6, rfl, h1_6⟩ := ex_succ h1_5
  obtain ⟨v7, vr7, rfl, h1_7⟩ := ex_succ h1_6
  obtain ⟨v8, vr8, rfl, h1_8⟩ := ex_succ h1_7
  obtain ⟨v9, vr9, rfl, h1_9⟩ := ex_succ h1_8
  obtain ⟨v10, vr10, rfl, h1_10⟩ := ex_succ h1_9
  obtain rfl := List.length_eq_zero_iff.mp h1_10
  obtain ⟨x0, xr0, rfl, h2_0⟩ := ex_succ h2
  obtain ⟨x1, xr1, rfl, h2_1⟩ := ex_succ h2_0
  obtain ⟨x2, xr2, rfl, h2_2⟩ := ex_succ h2_1
  obtain ⟨x3, xr3, rfl, h2_3⟩ := ex_succ h2_2
  obtain ⟨x4, xr4, rfl, h2_4⟩ := ex_succ h2_3
  obtain ⟨x5, xr5, rfl, h2_5⟩ := ex_succ h2_4
  obtain ⟨x6, xr6, rfl, h2_6⟩ := ex_succ h2_5
  obtain ⟨x7, xr7, rfl, h2_7⟩ := ex_succ h2_6
  obtain ⟨x8, xr8, rfl, h2_8⟩ := ex_succ h2_7
  obtain ⟨x9, xr9, rfl, h2_9⟩ := ex_succ h2_8
  obtain ⟨x10, xr10, rfl, h2_10⟩ := ex_succ h2_9
  obtain ⟨x11, xr11, rfl, h2_11⟩ := ex_succ h2_10
  obtain ⟨x12, xr12, rfl, h2_12⟩ := ex_succ h2_11
  obtain ⟨x13, xr13, rfl, h2_13⟩ := ex_succ h2_12
  obtain ⟨x14, xr14, rfl, h2_14⟩ := ex_succ h2_13
  obtain ⟨x15, xr15, rfl, h2_15⟩ := ex_succ h2_14
  obtain ⟨x16, xr16, rfl, h2_16⟩ := ex_succ h2_15
  obtain ⟨x17, xr17, rfl, h2_17⟩ := ex_succ h2_16
  obtain ⟨x18, xr18, rfl, h2_18⟩ := ex_succ h2_17
  obtain ⟨x19, xr19, rfl, h2_19⟩ := ex_succ h2_18
  obtain ⟨x20, xr20, rfl, h2_20⟩ := ex_succ h2_19
  obtain ⟨x21, xr21, rfl, h2_21⟩ := ex_succ h2_20
  obtain ⟨x22, xr22, rfl, h2_22⟩ := ex_succ h2_21
  obtain ⟨x23, xr23, rfl, h2_23⟩ := ex_succ h2_22
  obtain ⟨x24, xr24, rfl, h2_24⟩ := ex_succ h2_23
  obtain ⟨x25, xr25, rfl, h2_25⟩ := ex_succ h2_24
  obtain ⟨x26, xr26, rfl, h2_26⟩ := ex_succ h2_25
  obtain ⟨x27, xr27, rfl, h2_27⟩ := ex_succ h2_26
  obtain ⟨x28, xr28, rfl, h2_28⟩ := ex_succ h2_27
  obtain ⟨x29, xr29, rfl, h2_29⟩ := ex_succ h2_28
  obtain ⟨x30, xr30, rfl, h2_30⟩ := ex_succ h2_29
  obtain rfl := List.length_eq_zero_iff.mp h2_30
  kernel_rfl
theorem r5_11 (σ : List (Option SV)) (o : List MO) (h1 : σ.length = 11) (h2 : o.length = 34) : isTurn 11 37 L5 (turnM tg1 tb1 (rows.getD 11 .none) ⟨none :: some (.m 0) :: some (.d (.list (L5.map .str))) :: σ, o⟩) = true := by
  obtain ⟨v0, vr0, rfl, h1_0⟩ := ex_succ h1
  obtain ⟨v1, vr1, rfl, h1_1⟩ := ex_succ h1_0
  obtain ⟨v2, vr2, rfl, h1_2⟩ := ex_succ h1_1
  obtain ⟨v3, vr3, rfl, h1_3⟩ := ex_succ h1_2
  obtain ⟨v4, vr4, rfl, h1_4⟩ := ex_succ h1_3
  obtain ⟨v5, vr5, rfl, h1_5⟩ := ex_succ h1_4
  obtain ⟨v6, vr6, rfl, h1_6⟩ := ex_succ h1_5
  obtain ⟨v7, vr7, rfl, h1_7⟩ := ex_succ h1_6
  obtain ⟨v8, vr8, rfl, h1_8⟩ := ex_succ h1_7
  obtain ⟨v9, vr9, rfl, h1_9⟩ := ex_succ h1_8
  obtain ⟨v10, vr10, rfl, h1_10⟩ := ex_succ h1_9
  obtain rfl := List.length_eq_zero_iff.mp h1_10
  obtain ⟨x0, xr0, rfl, h2_0⟩ := ex_succ h2
  obtain ⟨x1, xr1, rfl, h2_1⟩ := ex_succ h2_0
  obtain ⟨x2, xr2, rfl, h2_2⟩ := ex_succ h2_1
  obtain ⟨x3, xr3, rfl, h2_3⟩ := ex_succ h2_2
  obtain ⟨x4, xr4, rfl, h2_4⟩ := ex_succ h2_3
  obtain ⟨x5, xr5, rfl, h2_5⟩ := ex_succ h2_4
  obtain ⟨x6, xr6, rfl, h2_6⟩ := ex_succ h2_5
  obtain ⟨x7, xr7, rfl, h2_7⟩ := ex_succ h2_6
  obtain ⟨x8, xr8, rfl, h2_8⟩ := ex_succ h2_7
  obtain ⟨x9, xr9, rfl, h2_9⟩ := ex_succ h2_8
  obtain ⟨x10, xr10, rfl, h2_10⟩ := ex_succ h2_9
  obtain ⟨x11, xr11, rfl, h2_11⟩ := ex_succ h2_10
  obtain ⟨x12, xr12, rfl, h2_12⟩ := ex_succ h2_11
  obtain ⟨x13, xr13, rfl, h2_13⟩ := ex_succ h2_12
  obtain ⟨x14, xr14, rfl, h2_14⟩ := ex_succ h2_13
  obtain ⟨x15, xr15, rfl, h2_15⟩ := ex_succ h2_14
  obtain ⟨x16, xr16, rfl, h2_16⟩ := ex_succ h2_15
  obtain ⟨x17, xr17, rfl, h2_17⟩ := ex_succ h2_16
  obtain ⟨x18, xr18, rfl, h2_18⟩ := ex_succ h2_17
  obtain ⟨x19, xr19, rfl, h2_19⟩ := ex_succ h2_18
  obtain ⟨x20, xr20, rfl, h2_20⟩ := ex_succ h2_19
  obtain ⟨x21, xr21, rfl, h2_21⟩ := ex_succ h2_20
  obtain ⟨x22, xr22, rfl, h2_22⟩ := ex_succ h2_21
  obtain ⟨x23, xr23, rfl, h2_23⟩ := ex_succ h2_22
  obtain ⟨x24, xr24, rfl, h2_24⟩ := ex_succ h2_23
  obtain ⟨x25, xr25, rfl, h2_25⟩ := ex_succ h2_24
  obtain ⟨x26, xr26, rfl, h2_26⟩ := ex_succ h2_25
  obtain ⟨x27, xr27, rfl, h2_27⟩ := ex_succ h2_26
  obtain ⟨x28, xr28, rfl, h2_28⟩ := ex_succ h2_27
  obtain ⟨x29, xr29, rfl, h2_29⟩ := ex_succ h2_28
  obtain ⟨x30, xr30, rfl, h2_30⟩ := ex_succ h2_29
  obtain ⟨x31, xr31, rfl, h2_31⟩ := ex_succ h2_30
  obtain ⟨x32, xr32, rfl, h2_32⟩ := ex_succ h2_31
  obtain ⟨x33, xr33, rfl, h2_33⟩ := ex_succ h2_32
  obtain rfl := List.length_eq_zero_iff.mp h2_33
  kernel_rfl
theorem r5_12 (σ : List (Option SV)) (o : List MO) (h1 : σ.length = 11) (h2 : o.length = 37) : isTurn 11 40 L5 (turnM tg1 tb1 (rows.getD 12 .none) ⟨none :: some (.m 0) :: some (.d (.list (L5.map .str))) :: σ, o⟩) = true := by
  obtain ⟨v0, vr0, rfl, h1_0⟩ := ex_succ h1
  obtain ⟨v1, vr1, rfl, h1_1⟩ := ex_succ h1_0
  obtain ⟨v2, vr2, rfl, h1_2⟩ := ex_succ h1_1
  obtain ⟨v3, vr3, rfl, h1_3⟩ := ex_succ h1_2
  obtain ⟨v4, vr4, rfl, h1_4⟩ := ex_succ h1_3
  obtain ⟨v5, vr5, rfl, h1_5⟩ := ex_succ h1_4
  obtain ⟨v6, vr6, rfl, h1_6⟩ := ex_succ h1_5
  obtain ⟨v7, vr7, rfl, h1_7⟩ := ex_succ h1_6
  obtain ⟨v8, vr8, rfl, h1_8⟩ := ex_succ h1_7
  obtain ⟨v9, vr9, rfl, h1_9⟩ := ex_succ h1_8
  obtain ⟨v10, vr10, rfl, h1_10⟩ := ex_succ h1_9
  obtain rfl := List.length_eq_zero_iff.mp h1_10
  obtain ⟨x0, xr0, rfl, h2_0⟩ := ex_succ h2
  obtain ⟨x1, xr1, rfl, h2_1⟩ := ex_succ h2_0
  obtain ⟨x2, xr2, rfl, h2_2⟩ := ex_succ h2_1
  obtain ⟨x3, xr3, rfl, h2_3⟩ := ex_succ h2_2
  obtain ⟨x4, xr4, rfl, h2_4⟩ := ex_succ h2_3
  obtain ⟨x5, xr5, rfl, h2_5⟩ := ex_succ h2_4
  obtain ⟨x6, xr6, rfl, h2_6⟩ := ex_succ h2_5
  obtain ⟨x7, xr7, rfl, h2_7⟩ := ex_succ h2_6
  obtain ⟨x8, xr8, rfl, h2_8⟩ := ex_succ h2_7
  obtain ⟨x9, xr9, rfl, h2_9⟩ := ex_succ h2_8
  obtain ⟨x10, xr10, rfl, h2_10⟩ := ex_succ h2_9
  obtain ⟨x11, xr11, rfl, h2_11⟩ := ex_succ h2_10
  obtain ⟨x12, xr12, rfl, h2_12⟩ := ex_succ h2_11
  obtain ⟨x13, xr13, rfl, h2_13⟩ := ex_succ h2_12
  obtain ⟨x14, xr14, rfl, h2_14⟩ := ex_succ h2_13
  obtain ⟨x15, xr15, rfl, h2_15⟩ := ex_succ h2_14
  obtain ⟨x16, xr16, rfl, h2_16⟩ := ex_succ h2_15
  obtain ⟨x17, xr17, rfl, h2_17⟩ := ex_succ h2_16
  obtain ⟨x18, xr18, rfl, h2_18⟩ := ex_succ h2_17
  obtain ⟨x19, xr19, rfl, h2_19⟩ := ex_succ h2_18
  obtain ⟨x20, xr20, rfl, h2_20⟩ := ex_succ h2_19
  obtain ⟨x21, xr21, rfl, h2_21⟩ := ex_succ h2_20
  obtain ⟨x22, xr22, rfl, h2_22⟩ := ex_succ h2_21
  obtain ⟨x23, xr23, rfl, h2_23⟩ := ex_succ h2_22
  obtain ⟨x24, xr24, rfl, h2_24⟩ := ex_succ h2_23
  obtain ⟨x25, xr25, rfl, h2_25⟩ := ex_succ h2_24
  obtain ⟨x26, xr26, rfl, h2_26⟩ := ex_succ h2_25
  obtain ⟨x27, xr27, rfl, h2_27⟩ := ex_succ h2_26
  obtain ⟨x28, xr28, rfl, h2_28⟩ := ex_succ h2_27
  obtain ⟨x29, xr29, rfl, h2_29⟩ := ex_succ h2_28
  obtain ⟨x30, xr30, rfl, h2_30⟩ := ex_succ h2_29
  obtain ⟨x31, xr31, rfl, h2_31⟩ := ex_succ h2_30
  obtain ⟨x32, xr32, rfl, h2_32⟩ := ex_succ h2_31
  obtain ⟨x33, xr33, rfl, h2_33⟩ := ex_succ h2_32
  obtain ⟨x34, xr34, rfl, h2_34⟩ := ex_succ h2_33
  obtain ⟨x35, xr35, rfl, h2_35⟩ := ex_succ h2_34
  obtain ⟨x36, xr36, rfl, h2_36⟩ := ex_succ h2_35
  obtain rfl := List.length_eq_zero_iff.mp h2_36
  kernel_rfl
theorem rest5 (σ : List (Option SV)) (o : List MO) (h1 : σ.length = 11) (h2 : o.length = 40) : isRt (m_law_2 ⟨none :: some (.m 0) :: some (.d (.list (L5.map .str))) :: σ, o⟩) = true := by
  obtain ⟨v0, vr0, rfl, h1_0⟩ := ex_succ h1
  obtain ⟨v1, vr1, rfl, h1_1⟩ := ex_succ h1_0
  obtain ⟨v2, vr2, rfl, h1_2⟩ := ex_succ h1_1
  obtain ⟨v3, vr3, rfl, h1_3⟩ := ex_succ h1_2
  obtain ⟨v4, vr4, rfl, h1_4⟩ := ex_succ h1_3
  obtain ⟨v5, vr5, rfl, h1_5⟩ := ex_succ h1_4
  obtain ⟨v6, vr6, rfl, h1_6⟩ := ex_succ h1_5
  obtain ⟨v7, vr7, rfl, h1_7⟩ := ex_succ h1_6
  obtain ⟨v8, vr8, rfl, h1_8⟩ := ex_succ h1_7
  obtain ⟨v9, vr9, rfl, h1_9⟩ := ex_succ h1_8
  obtain ⟨v10, vr10, rfl, h1_10⟩ := ex_succ h1_9
  obtain rfl := List.length_eq_zero_iff.mp h1_10
  obtain ⟨x0, xr0, rfl, h2_0⟩ := ex_succ h2
  obtain ⟨x1, xr1, rfl, h2_1⟩ := ex_succ h2_0
  obtain ⟨x2, xr2, rfl, h2_2⟩ := ex_succ h2_1
  obtain ⟨x3, xr3, rfl, h2_3⟩ := ex_succ h2_2
  obtain ⟨x4, xr4, rfl, h2_4⟩ := ex_succ h2_3
  obtain ⟨x5, xr5, rfl, h2_5⟩ := ex_succ h2_4
  obtain ⟨x6, xr6, rfl, h2_6⟩ := ex_succ h2_5
  obtain ⟨x7, xr7, rfl, h2_7⟩ := ex_succ h2_6
  obtain ⟨x8, xr8, rfl, h2_8⟩ := ex_succ h2_7
  obtain ⟨x9, xr9, rfl, h2_9⟩ := ex_succ h2_8
  obtain ⟨x10, xr10, rfl, h2_10⟩ := ex_succ h2_9
  obtain ⟨x11, xr11, rfl, h2_11⟩ := ex_succ h2_10
  obtain ⟨x12, xr12, rfl, h2_12⟩ := ex_succ h2_11
  obtain ⟨x13, xr13, rfl, h2_13⟩ := ex_succ h2_12
  obtain ⟨x14, xr14, rfl, h2_14⟩ := ex_succ h2_13
  obtain ⟨x15, xr15, rfl, h2_15⟩ := ex_succ h2_14
  obtain ⟨x16, xr16, rfl, h2_16⟩ := ex_succ h2_15
  obtain ⟨x17, xr17, rfl, h2_17⟩ := ex_succ h2_16
  obtain ⟨x18, xr18, rfl, h2_18⟩ := ex_succ h2_17
  obtain ⟨x19, xr19, rfl, h2_19⟩ := ex_succ h2_18
  obtain ⟨x20, xr20, rfl, h2_20⟩ := ex_succ h2_19
  obtain ⟨x21, xr21, rfl, h2_21⟩ := ex_succ h2_20
  obtain ⟨x22, xr22, rfl, h2_22⟩ := ex_succ h2_21
  obtain ⟨x23, xr23, rfl, h2_23⟩ := ex_succ h2_22
  obtain ⟨x24, xr24, rfl, h2_24⟩ := ex_succ h2_23
  obtain ⟨x25, xr25, rfl, h2_25⟩ := ex_succ h2_24
  obtain ⟨x26, xr26, rfl, h2_26⟩ := ex_succ h2_25
  obtain ⟨x27, xr27, rfl, h2_27⟩ := ex_succ h2_26
  obtain ⟨x28, xr28, rfl, h2_28⟩ := ex_succ h2_27
  obtain ⟨x29, xr29, rfl, h2_29⟩ := ex_succ h2_28
  obtain ⟨x30, xr30, rfl, h2_30⟩ := ex_succ h2_29
  obtain ⟨x31, xr31, rfl, h2_31⟩ := ex_succ h2_30
  obtain ⟨x32, xr32, rfl, h2_32⟩ := ex_succ h2_31
  obtain ⟨x33, xr33, rfl, h2_33⟩ := ex_succ h2_32
  obtain ⟨x34, xr34, rfl, h2_34⟩ := ex_succ h2_33
  obtain ⟨x35, xr35, rfl, h2_35⟩ := ex_succ h2_34
  obtain ⟨x36, xr36, rfl, h2_36⟩ := ex_succ h2_35
  obtain ⟨x37, xr37, rfl, h2_37⟩ := ex_succ h2_36
  obtain ⟨x38, xr38, rfl, h2_38⟩ := ex_succ h2_37
  obtain ⟨x39, xr39, rfl, h2_39⟩ := ex_succ h2_38
  obtain rfl := List.length_eq_zero_iff.mp h2_39
  kernel_rfl
theorem r5 (cs : List Int) (x l w : Int) : isRt (m_law_1 ⟨none :: some (.m 0) :: some (.d (.list (L5.map .str))) :: List.replicate 11 none, [fdO cs x l w]⟩) = true := by
  obtain ⟨σ, o, e, h1, h2⟩ := rows_ok (g := tg1) (b := tb1) (im := im1) (n := 11) (c := 3) (k0 := 1) (L := L5) (items := rows) rows_im (σ := List.replicate 11 none) (o := [fdO cs x l w]) List.length_replicate rfl fun i hi σ o h1 h2 => by
    rw [rows_len] at hi
    match i, hi with
    | 0, _ => exact r5_0 σ o h1 h2
    | 1, _ => exact r5_1 σ o h1 h2
    | 2, _ => exact r5_2 σ o h1 h2
    | 3, _ => exact r5_3 σ o h1 h2
    | 4, _ => exact r5_4 σ o h1 h2
    | 5, _ => exact r5_5 σ o h1 h2
    | 6, _ => exact r5_6 σ o h1 h2
    | 7, _ => exact r5_7 σ o h1 h2
    | 8, _ => exact r5_8 σ o h1 h2
    | 9, _ => exact r5_9 σ o h1 h2
    | 10, _ => exact r5_10 σ o h1 h2
    | 11, _ => exact r5_11 σ o h1 h2
    | 12, _ => exact r5_12 σ o h1 h2
    | k + 13, h => omega
  rw [rows_len] at h2
  have e2 : m_law_1 ⟨none :: some (.m 0) :: some (.d (.list (L5.map .str))) :: List.replicate 11 none, [fdO cs x l w]⟩ = m_law_2 ⟨none :: some (.m 0) :: some (.d (.list (L5.map .str))) :: σ, o⟩ := mSeq_nx e
  rw [e2]
  exact rest5 σ o h1 h2
end
end H52

namespace H52
noncomputable section
open PySem PySem.Spec PyProof.Rows L2 RZ AP
variable [Tbls]
theorem six_0 : six.getD 0 [] = L0 := by kernel_rfl
theorem six_1 : six.getD 1 [] = L1 := by kernel_rfl
theorem six_2 : six.getD 2 [] = L2 := by kernel_rfl
theorem six_3 : six.getD 3 [] = L3 := by kernel_rfl
theorem six_4 : six.getD 4 [] = L4 := by kernel_rfl
theorem six_5 : six.getD 5 [] = L5 := by kernel_rfl
theorem law_ok : lawOk 14 m_law := law_namesG (mN := mNames6X dc) (a := 2) (lists := six) (fun h => names6X (by decide +kernel) h) (n := 12) (i := 2) fun j hj cs x l w => by
  have e : six.length = 6 := by decide +kernel
  rw [e] at hj
  match j, hj with
  | 0, _ => rw [six_0]; exact r0 cs x l w
  | 1, _ => rw [six_1]; exact r1 cs x l w
  | 2, _ => rw [six_2]; exact r2 cs x l w
  | 3, _ => rw [six_3]; exact r3 cs x l w
  | 4, _ => rw [six_4]; exact r4 cs x l w
  | 5, _ => rw [six_5]; exact r5 cs x l w
  | k + 6, h => omega
end
end H52

namespace H52
open PySem PySem.Spec PyProof.Rows L2 RZ AP

def d__steps : He.DefD := ⟨("_steps", none), "_steps", "_steps", defArgs s__steps, defBody s__steps, defScope s__steps, [], []⟩
def d_reached : He.DefD := ⟨("reached", none), "reached", "reached", defArgs s_reached, defBody s_reached, defScope s_reached, [], []⟩
def d__open_path : He.DefD := ⟨("_open_path", none), "_open_path", "_open_path", defArgs s__open_path, defBody s__open_path, defScope s__open_path, [], []⟩
def d_fullest_flow : He.DefD := ⟨("fullest_flow", none), "fullest_flow", "fullest_flow", defArgs s_fullest_flow, defBody s_fullest_flow, defScope s_fullest_flow, [], []⟩
def d_arcs_of : He.DefD := ⟨("arcs_of", none), "arcs_of", "arcs_of", defArgs s_arcs_of, defBody s_arcs_of, defScope s_arcs_of, [], []⟩
def d_most_brought : He.DefD := ⟨("most_brought", none), "most_brought", "most_brought", defArgs s_most_brought, defBody s_most_brought, defScope s_most_brought, [], []⟩
def d_greatest_set : He.DefD := ⟨("greatest_set", none), "greatest_set", "greatest_set", defArgs s_greatest_set, defBody s_greatest_set, defScope s_greatest_set, [], []⟩
def d_free_links : He.DefD := ⟨("free_links", none), "free_links", "free_links", defArgs s_free_links, defBody s_free_links, defScope s_free_links, [], []⟩
def d_single_stocks : He.DefD := ⟨("single_stocks", none), "single_stocks", "single_stocks", defArgs s_single_stocks, defBody s_single_stocks, defScope s_single_stocks, [], []⟩
def d_is_integer : He.DefD := ⟨("is_integer", none), "is_integer", "is_integer", defArgs s_is_integer, defBody s_is_integer, defScope s_is_integer, [], []⟩
def d_is_number : He.DefD := ⟨("is_number", none), "is_number", "is_number", defArgs s_is_number, defBody s_is_number, defScope s_is_number, [], []⟩
def d_is_pair : He.DefD := ⟨("is_pair", none), "is_pair", "is_pair", defArgs s_is_pair, defBody s_is_pair, defScope s_is_pair, [], []⟩
def d_is_ascending : He.DefD := ⟨("is_ascending", none), "is_ascending", "is_ascending", defArgs s_is_ascending, defBody s_is_ascending, defScope s_is_ascending, [], []⟩
def d_is_name : He.DefD := ⟨("is_name", none), "is_name", "is_name", defArgs s_is_name, defBody s_is_name, defScope s_is_name, [], []⟩
def d_is_name_pair : He.DefD := ⟨("is_name_pair", none), "is_name_pair", "is_name_pair", defArgs s_is_name_pair, defBody s_is_name_pair, defScope s_is_name_pair, [], []⟩
def d_is_houses : He.DefD := ⟨("is_houses", none), "is_houses", "is_houses", defArgs s_is_houses, defBody s_is_houses, defScope s_is_houses, [], []⟩
def d_is_wire : He.DefD := ⟨("is_wire", none), "is_wire", "is_wire", defArgs s_is_wire, defBody s_is_wire, defScope s_is_wire, [], []⟩
def d_is_set_among : He.DefD := ⟨("is_set_among", none), "is_set_among", "is_set_among", defArgs s_is_set_among, defBody s_is_set_among, defScope s_is_set_among, [], []⟩
def d_is_wire_among : He.DefD := ⟨("is_wire_among", none), "is_wire_among", "is_wire_among", defArgs s_is_wire_among, defBody s_is_wire_among, defScope s_is_wire_among, [], []⟩
def d_lets_net : He.DefD := ⟨("lets_net", none), "lets_net", "lets_net", defArgs s_lets_net, defBody s_lets_net, defScope s_lets_net, [], []⟩
def d_need_net : He.DefD := ⟨("need_net", none), "need_net", "need_net", defArgs s_need_net, defBody s_need_net, defScope s_need_net, [], []⟩
def d_need_house : He.DefD := ⟨("need_house", none), "need_house", "need_house", defArgs s_need_house, defBody s_need_house, defScope s_need_house, [], []⟩
def d_lets_holders : He.DefD := ⟨("lets_holders", none), "lets_holders", "lets_holders", defArgs s_lets_holders, defBody s_lets_holders, defScope s_lets_holders, [], []⟩
def d_need_holders : He.DefD := ⟨("need_holders", none), "need_holders", "need_holders", defArgs s_need_holders, defBody s_need_holders, defScope s_need_holders, [], []⟩
def d_need_piece : He.DefD := ⟨("need_piece", none), "need_piece", "need_piece", defArgs s_need_piece, defBody s_need_piece, defScope s_need_piece, [], []⟩
def d_comers_to : He.DefD := ⟨("comers_to", none), "comers_to", "comers_to", defArgs s_comers_to, defBody s_comers_to, defScope s_comers_to, [], []⟩
def d_comers : He.DefD := ⟨("comers", none), "comers", "comers", defArgs s_comers, defBody s_comers, defScope s_comers, [], []⟩
def d_lets_giving : He.DefD := ⟨("lets_giving", none), "lets_giving", "lets_giving", defArgs s_lets_giving, defBody s_lets_giving, defScope s_lets_giving, [], []⟩
def d_need_giving : He.DefD := ⟨("need_giving", none), "need_giving", "need_giving", defArgs s_need_giving, defBody s_need_giving, defScope s_need_giving, [], []⟩
def d_laid : He.DefD := ⟨("laid", none), "laid", "laid", defArgs s_laid, defBody s_laid, defScope s_laid, [], []⟩
def d_lacked_by : He.DefD := ⟨("lacked_by", none), "lacked_by", "lacked_by", defArgs s_lacked_by, defBody s_lacked_by, defScope s_lacked_by, [], []⟩
def d__need_numbers : He.DefD := ⟨("_need_numbers", none), "_need_numbers", "_need_numbers", defArgs s__need_numbers, defBody s__need_numbers, defScope s__need_numbers, [], []⟩
def d__stocks : He.DefD := ⟨("_stocks", none), "_stocks", "_stocks", defArgs s__stocks, defBody s__stocks, defScope s__stocks, [], []⟩
def d__least_room : He.DefD := ⟨("_least_room", none), "_least_room", "_least_room", defArgs s__least_room, defBody s__least_room, defScope s__least_room, [], []⟩
def d_enough : He.DefD := ⟨("enough", none), "enough", "enough", defArgs s_enough, defBody s_enough, defScope s_enough, [], []⟩
def d_spared : He.DefD := ⟨("spared", none), "spared", "spared", defArgs s_spared, defBody s_spared, defScope s_spared, [], []⟩
def d_fewest_further : He.DefD := ⟨("fewest_further", none), "fewest_further", "fewest_further", defArgs s_fewest_further, defBody s_fewest_further, defScope s_fewest_further, [], []⟩
def d__without_room : He.DefD := ⟨("_without_room", none), "_without_room", "_without_room", defArgs s__without_room, defBody s__without_room, defScope s__without_room, [], []⟩
def d_further_copies : He.DefD := ⟨("further_copies", none), "further_copies", "further_copies", defArgs s_further_copies, defBody s_further_copies, defScope s_further_copies, [], []⟩
def d_apart_sets : He.DefD := ⟨("apart_sets", none), "apart_sets", "apart_sets", defArgs s_apart_sets, defBody s_apart_sets, defScope s_apart_sets, [], []⟩
def d__law_feed : He.DefD := ⟨("_law_feed", none), "_law_feed", "_law_feed", defArgs s__law_feed, defBody s__law_feed, defScope s__law_feed, [], []⟩
def d__law_draw : He.DefD := ⟨("_law_draw", none), "_law_draw", "_law_draw", defArgs s__law_draw, defBody s__law_draw, defScope s__law_draw, [], []⟩
def d__law_any : He.DefD := ⟨("_law_any", none), "_law_any", "_law_any", defArgs s__law_any, defBody s__law_any, defScope s__law_any, [], []⟩
def d__law_names : He.DefD := ⟨("_law_names", none), "_law_names", "_law_names", defArgs s__law_names, defBody s__law_names, defScope s__law_names, [], []⟩
def d__law_set : He.DefD := ⟨("_law_set", none), "_law_set", "_law_set", defArgs s__law_set, defBody s__law_set, defScope s__law_set, [], []⟩
def d__law_scene : He.DefD := ⟨("_law_scene", none), "_law_scene", "_law_scene", defArgs s__law_scene, defBody s__law_scene, defScope s__law_scene, [], []⟩
def d__law_few : He.DefD := ⟨("_law_few", none), "_law_few", "_law_few", defArgs s__law_few, defBody s__law_few, defScope s__law_few, [], []⟩
def d__law_many : He.DefD := ⟨("_law_many", none), "_law_many", "_law_many", defArgs s__law_many, defBody s__law_many, defScope s__law_many, [], []⟩
def d__law_dues : He.DefD := ⟨("_law_dues", none), "_law_dues", "_law_dues", defArgs s__law_dues, defBody s__law_dues, defScope s__law_dues, [], []⟩
def d_law : He.DefD := ⟨("law", none), "law", "law", defArgs s_law, defBody s_law, defScope s_law, [], []⟩
abbrev i_InvalidPaper : Stmt := clsBody (top 16) 0
def d_InvalidPaper : He.DefD := ⟨("InvalidPaper", some "__init__"), "__init__", "InvalidPaper.__init__", defArgs i_InvalidPaper, defBody i_InvalidPaper, defScope i_InvalidPaper, [], []⟩
theorem sc_InvalidPaper : FnScope ["self", "word", "at"] ["self", "word", "at"] (defScope i_InvalidPaper) := ⟨rfl, rfl, rfl, by decide +kernel, rfl, by decide +kernel, by decide +kernel⟩
abbrev i_NotUsable : Stmt := clsBody (top 17) 0
def d_NotUsable : He.DefD := ⟨("NotUsable", some "__init__"), "__init__", "NotUsable.__init__", defArgs i_NotUsable, defBody i_NotUsable, defScope i_NotUsable, [], []⟩
theorem sc_NotUsable : FnScope ["self", "word", "at"] ["self", "word", "at"] (defScope i_NotUsable) := ⟨rfl, rfl, rfl, by decide +kernel, rfl, by decide +kernel, by decide +kernel⟩
def fn : List He.DefD := [d__steps, d_reached, d__open_path, d_fullest_flow, d_arcs_of, d_most_brought, d_greatest_set, d_free_links, d_single_stocks, d_is_integer, d_is_number, d_is_pair, d_is_ascending, d_is_name, d_is_name_pair, d_is_houses, d_is_wire, d_is_set_among, d_is_wire_among, d_lets_net, d_need_net, d_need_house, d_lets_holders, d_need_holders, d_need_piece, d_comers_to, d_comers, d_lets_giving, d_need_giving, d_laid, d_lacked_by, d__need_numbers, d__stocks, d__least_room, d_enough, d_spared, d_fewest_further, d__without_room, d_further_copies, d_apart_sets, d__law_feed, d__law_draw, d__law_any, d__law_names, d__law_set, d__law_scene, d__law_few, d__law_many, d__law_dues, d_law, d_InvalidPaper, d_NotUsable]
def fa : List He.Fa := [.glo "_steps", .glo "reached", .glo "_open_path", .glo "fullest_flow", .glo "arcs_of", .glo "most_brought", .glo "greatest_set", .glo "free_links", .glo "single_stocks", .glo "is_integer", .glo "is_number", .glo "is_pair", .glo "is_ascending", .glo "is_name", .glo "is_name_pair", .glo "is_houses", .glo "is_wire", .glo "is_set_among", .glo "is_wire_among", .glo "lets_net", .glo "need_net", .glo "need_house", .glo "lets_holders", .glo "need_holders", .glo "need_piece", .glo "comers_to", .glo "comers", .glo "lets_giving", .glo "need_giving", .glo "laid", .glo "lacked_by", .glo "_need_numbers", .glo "_stocks", .glo "_least_room", .glo "enough", .glo "spared", .glo "fewest_further", .glo "_without_room", .glo "further_copies", .glo "apart_sets", .glo "_law_feed", .glo "_law_draw", .glo "_law_any", .glo "_law_names", .glo "_law_set", .glo "_law_scene", .glo "_law_few", .glo "_law_many", .glo "_law_dues", .glo "law", .glo "PieceError", .glo "PaperError", .glo "NetError", .glo "InvalidPaper", .glo "NotUsable", .free "abs", .free "all", .free "any", .free "bool", .free "enumerate", .free "int", .free "isinstance", .free "len", .free "list", .free "min", .free "repr", .free "set", .free "sorted", .free "str", .free "sum", .free "tuple", .free "zip", .str "START" (Str.ofString "")]
def tf : List He.Defn := []
def ex (K : PySem.W.Frag) : Bool := exB K "InvalidPaper" "word" "at" && (exB K "NotUsable" "word" "at" && (ndB (tf.map fun p => (He.cT K p).2)))
abbrev R : PySem.W.OpenRow := PySem.W.OpenLaw.row PySem.Challenge.rw_allpieces_k52_further_told
abbrev hk : PySem.W.Hook := He.hookX 5 fa fn [] tf ex
def ob (s : PySem.W.SharedT) : He.AlX := He.obsX 5 fa fn [] tf ex (HandSHeadRun.getT s)
theorem ob_eq (s : PySem.W.SharedT) : ob s = hk.obs s.abs := He.obsX_eq (HandSHeadRun.getT_eq s)
theorem run (w : World) : HandSHeadRun.RunEq R (PySem.W.view R.prog [70]) hk ob 6000 ([PySem.Str.ofString "fullest_flow", PySem.Str.ofString "reached", PySem.Str.ofString "_steps", PySem.Str.ofString "_open_path", PySem.Str.ofString "START", PySem.Str.ofString "most_brought", PySem.Str.ofString "greatest_set", PySem.Str.ofString "arcs_of", PySem.Str.ofString "free_links", PySem.Str.ofString "single_stocks", PySem.Str.ofString "PieceError", PySem.Str.ofString "PaperError", PySem.Str.ofString "NetError", PySem.Str.ofString "InvalidPaper", PySem.Str.ofString "NotUsable", PySem.Str.ofString "is_integer", PySem.Str.ofString "is_number", PySem.Str.ofString "is_pair", PySem.Str.ofString "is_ascending", PySem.Str.ofString "is_name", PySem.Str.ofString "is_name_pair", PySem.Str.ofString "is_houses", PySem.Str.ofString "is_wire", PySem.Str.ofString "is_set_among", PySem.Str.ofString "is_wire_among", PySem.Str.ofString "lets_net", PySem.Str.ofString "need_net", PySem.Str.ofString "need_house", PySem.Str.ofString "lets_holders", PySem.Str.ofString "need_holders", PySem.Str.ofString "need_piece", PySem.Str.ofString "comers_to", PySem.Str.ofString "comers", PySem.Str.ofString "lets_giving", PySem.Str.ofString "need_giving", PySem.Str.ofString "laid", PySem.Str.ofString "lacked_by", PySem.Str.ofString "enough", PySem.Str.ofString "spared", PySem.Str.ofString "fewest_further", PySem.Str.ofString "further_copies", PySem.Str.ofString "apart_sets", PySem.Str.ofString "_need_numbers", PySem.Str.ofString "_stocks", PySem.Str.ofString "_least_room", PySem.Str.ofString "_without_room", PySem.Str.ofString "_law_feed", PySem.Str.ofString "_law_draw", PySem.Str.ofString "_law_any", PySem.Str.ofString "_law_names", PySem.Str.ofString "_law_set", PySem.Str.ofString "_law_scene", PySem.Str.ofString "_law_few", PySem.Str.ofString "_law_many", PySem.Str.ofString "_law_dues"] : List Str) w := by
  intro os
  kernel_rfl

theorem facts {P : Program} {w : World} {K : PySem.W.Frag} {h : Heap} {mg : Str → Option Value} {f : Addr} (X : K.In h) (G : h.Ns mainGlobals mg) (hfa : mg ("law" : Str) = some (.ref f)) (c0 : He.SaysX fa fn [] tf ex w h K) (ok : lawOk 14 m_law) :
    ∃ fd : FuncData, (∀ (s : Shared) (v : Value), BindsTo s fd ⟨[v], []⟩ [("_law_script", v)]) ∧ ∀ base : Heap, K.In base → base.Ns mainGlobals mg → (∀ q ∈ makers K tf, LamX.TabB base mg q.1 q.2.1) → @FnG gT P w K mg base CX0 15 f fd ["_law_script"] (@spLaw (tblsOf (makers K tf)) K) := by
  letI : Tbls := tblsOf (makers K tf)
  letI : Gd := gT
  have c := c0.t.d
  obtain ⟨fd__steps, F__steps⟩ := c.def_ 0 (d := d__steps) rfl
  obtain ⟨fd_reached, F_reached⟩ := c.def_ 1 (d := d_reached) rfl
  obtain ⟨fd__open_path, F__open_path⟩ := c.def_ 2 (d := d__open_path) rfl
  obtain ⟨fd_fullest_flow, F_fullest_flow⟩ := c.def_ 3 (d := d_fullest_flow) rfl
  obtain ⟨fd_arcs_of, F_arcs_of⟩ := c.def_ 4 (d := d_arcs_of) rfl
  obtain ⟨fd_most_brought, F_most_brought⟩ := c.def_ 5 (d := d_most_brought) rfl
  obtain ⟨fd_greatest_set, F_greatest_set⟩ := c.def_ 6 (d := d_greatest_set) rfl
  obtain ⟨fd_free_links, F_free_links⟩ := c.def_ 7 (d := d_free_links) rfl
  obtain ⟨fd_single_stocks, F_single_stocks⟩ := c.def_ 8 (d := d_single_stocks) rfl
  obtain ⟨fd_is_integer, F_is_integer⟩ := c.def_ 9 (d := d_is_integer) rfl
  obtain ⟨fd_is_number, F_is_number⟩ := c.def_ 10 (d := d_is_number) rfl
  obtain ⟨fd_is_pair, F_is_pair⟩ := c.def_ 11 (d := d_is_pair) rfl
  obtain ⟨fd_is_ascending, F_is_ascending⟩ := c.def_ 12 (d := d_is_ascending) rfl
  obtain ⟨fd_is_name, F_is_name⟩ := c.def_ 13 (d := d_is_name) rfl
  obtain ⟨fd_is_name_pair, F_is_name_pair⟩ := c.def_ 14 (d := d_is_name_pair) rfl
  obtain ⟨fd_is_houses, F_is_houses⟩ := c.def_ 15 (d := d_is_houses) rfl
  obtain ⟨fd_is_wire, F_is_wire⟩ := c.def_ 16 (d := d_is_wire) rfl
  obtain ⟨fd_is_set_among, F_is_set_among⟩ := c.def_ 17 (d := d_is_set_among) rfl
  obtain ⟨fd_is_wire_among, F_is_wire_among⟩ := c.def_ 18 (d := d_is_wire_among) rfl
  obtain ⟨fd_lets_net, F_lets_net⟩ := c.def_ 19 (d := d_lets_net) rfl
  obtain ⟨fd_need_net, F_need_net⟩ := c.def_ 20 (d := d_need_net) rfl
  obtain ⟨fd_need_house, F_need_house⟩ := c.def_ 21 (d := d_need_house) rfl
  obtain ⟨fd_lets_holders, F_lets_holders⟩ := c.def_ 22 (d := d_lets_holders) rfl
  obtain ⟨fd_need_holders, F_need_holders⟩ := c.def_ 23 (d := d_need_holders) rfl
  obtain ⟨fd_need_piece, F_need_piece⟩ := c.def_ 24 (d := d_need_piece) rfl
  obtain ⟨fd_comers_to, F_comers_to⟩ := c.def_ 25 (d := d_comers_to) rfl
  obtain ⟨fd_comers, F_comers⟩ := c.def_ 26 (d := d_comers) rfl
  obtain ⟨fd_lets_giving, F_lets_giving⟩ := c.def_ 27 (d := d_lets_giving) rfl
  obtain ⟨fd_need_giving, F_need_giving⟩ := c.def_ 28 (d := d_need_giving) rfl
  obtain ⟨fd_laid, F_laid⟩ := c.def_ 29 (d := d_laid) rfl
  obtain ⟨fd_lacked_by, F_lacked_by⟩ := c.def_ 30 (d := d_lacked_by) rfl
  obtain ⟨fd__need_numbers, F__need_numbers⟩ := c.def_ 31 (d := d__need_numbers) rfl
  obtain ⟨fd__stocks, F__stocks⟩ := c.def_ 32 (d := d__stocks) rfl
  obtain ⟨fd__least_room, F__least_room⟩ := c.def_ 33 (d := d__least_room) rfl
  obtain ⟨fd_enough, F_enough⟩ := c.def_ 34 (d := d_enough) rfl
  obtain ⟨fd_spared, F_spared⟩ := c.def_ 35 (d := d_spared) rfl
  obtain ⟨fd_fewest_further, F_fewest_further⟩ := c.def_ 36 (d := d_fewest_further) rfl
  obtain ⟨fd__without_room, F__without_room⟩ := c.def_ 37 (d := d__without_room) rfl
  obtain ⟨fd_further_copies, F_further_copies⟩ := c.def_ 38 (d := d_further_copies) rfl
  obtain ⟨fd_apart_sets, F_apart_sets⟩ := c.def_ 39 (d := d_apart_sets) rfl
  obtain ⟨fd__law_feed, F__law_feed⟩ := c.def_ 40 (d := d__law_feed) rfl
  obtain ⟨fd__law_draw, F__law_draw⟩ := c.def_ 41 (d := d__law_draw) rfl
  obtain ⟨fd__law_any, F__law_any⟩ := c.def_ 42 (d := d__law_any) rfl
  obtain ⟨fd__law_names, F__law_names⟩ := c.def_ 43 (d := d__law_names) rfl
  obtain ⟨fd__law_set, F__law_set⟩ := c.def_ 44 (d := d__law_set) rfl
  obtain ⟨fd__law_scene, F__law_scene⟩ := c.def_ 45 (d := d__law_scene) rfl
  obtain ⟨fd__law_few, F__law_few⟩ := c.def_ 46 (d := d__law_few) rfl
  obtain ⟨fd__law_many, F__law_many⟩ := c.def_ 47 (d := d__law_many) rfl
  obtain ⟨fd__law_dues, F__law_dues⟩ := c.def_ 48 (d := d__law_dues) rfl
  obtain ⟨fd_law, F_law⟩ := c.def_ 49 (d := d_law) rfl
  obtain ⟨fdi_InvalidPaper, FI_InvalidPaper⟩ := c.def_ 50 (d := d_InvalidPaper) rfl
  obtain ⟨fdi_NotUsable, FI_NotUsable⟩ := c.def_ 51 (d := d_NotUsable) rfl
  have g__steps := He.glo_ok X G (c.fact 0 (f := .glo "_steps") rfl)
  have g_reached := He.glo_ok X G (c.fact 1 (f := .glo "reached") rfl)
  have g__open_path := He.glo_ok X G (c.fact 2 (f := .glo "_open_path") rfl)
  have g_fullest_flow := He.glo_ok X G (c.fact 3 (f := .glo "fullest_flow") rfl)
  have g_arcs_of := He.glo_ok X G (c.fact 4 (f := .glo "arcs_of") rfl)
  have g_most_brought := He.glo_ok X G (c.fact 5 (f := .glo "most_brought") rfl)
  have g_greatest_set := He.glo_ok X G (c.fact 6 (f := .glo "greatest_set") rfl)
  have g_free_links := He.glo_ok X G (c.fact 7 (f := .glo "free_links") rfl)
  have g_single_stocks := He.glo_ok X G (c.fact 8 (f := .glo "single_stocks") rfl)
  have g_is_integer := He.glo_ok X G (c.fact 9 (f := .glo "is_integer") rfl)
  have g_is_number := He.glo_ok X G (c.fact 10 (f := .glo "is_number") rfl)
  have g_is_pair := He.glo_ok X G (c.fact 11 (f := .glo "is_pair") rfl)
  have g_is_ascending := He.glo_ok X G (c.fact 12 (f := .glo "is_ascending") rfl)
  have g_is_name := He.glo_ok X G (c.fact 13 (f := .glo "is_name") rfl)
  have g_is_name_pair := He.glo_ok X G (c.fact 14 (f := .glo "is_name_pair") rfl)
  have g_is_houses := He.glo_ok X G (c.fact 15 (f := .glo "is_houses") rfl)
  have g_is_wire := He.glo_ok X G (c.fact 16 (f := .glo "is_wire") rfl)
  have g_is_set_among := He.glo_ok X G (c.fact 17 (f := .glo "is_set_among") rfl)
  have g_is_wire_among := He.glo_ok X G (c.fact 18 (f := .glo "is_wire_among") rfl)
  have g_lets_net := He.glo_ok X G (c.fact 19 (f := .glo "lets_net") rfl)
  have g_need_net := He.glo_ok X G (c.fact 20 (f := .glo "need_net") rfl)
  have g_need_house := He.glo_ok X G (c.fact 21 (f := .glo "need_house") rfl)
  have g_lets_holders := He.glo_ok X G (c.fact 22 (f := .glo "lets_holders") rfl)
  have g_need_holders := He.glo_ok X G (c.fact 23 (f := .glo "need_holders") rfl)
  have g_need_piece := He.glo_ok X G (c.fact 24 (f := .glo "need_piece") rfl)
  have g_comers_to := He.glo_ok X G (c.fact 25 (f := .glo "comers_to") rfl)
  have g_comers := He.glo_ok X G (c.fact 26 (f := .glo "comers") rfl)
  have g_lets_giving := He.glo_ok X G (c.fact 27 (f := .glo "lets_giving") rfl)
  have g_need_giving := He.glo_ok X G (c.fact 28 (f := .glo "need_giving") rfl)
  have g_laid := He.glo_ok X G (c.fact 29 (f := .glo "laid") rfl)
  have g_lacked_by := He.glo_ok X G (c.fact 30 (f := .glo "lacked_by") rfl)
  have g__need_numbers := He.glo_ok X G (c.fact 31 (f := .glo "_need_numbers") rfl)
  have g__stocks := He.glo_ok X G (c.fact 32 (f := .glo "_stocks") rfl)
  have g__least_room := He.glo_ok X G (c.fact 33 (f := .glo "_least_room") rfl)
  have g_enough := He.glo_ok X G (c.fact 34 (f := .glo "enough") rfl)
  have g_spared := He.glo_ok X G (c.fact 35 (f := .glo "spared") rfl)
  have g_fewest_further := He.glo_ok X G (c.fact 36 (f := .glo "fewest_further") rfl)
  have g__without_room := He.glo_ok X G (c.fact 37 (f := .glo "_without_room") rfl)
  have g_further_copies := He.glo_ok X G (c.fact 38 (f := .glo "further_copies") rfl)
  have g_apart_sets := He.glo_ok X G (c.fact 39 (f := .glo "apart_sets") rfl)
  have g__law_feed := He.glo_ok X G (c.fact 40 (f := .glo "_law_feed") rfl)
  have g__law_draw := He.glo_ok X G (c.fact 41 (f := .glo "_law_draw") rfl)
  have g__law_any := He.glo_ok X G (c.fact 42 (f := .glo "_law_any") rfl)
  have g__law_names := He.glo_ok X G (c.fact 43 (f := .glo "_law_names") rfl)
  have g__law_set := He.glo_ok X G (c.fact 44 (f := .glo "_law_set") rfl)
  have g__law_scene := He.glo_ok X G (c.fact 45 (f := .glo "_law_scene") rfl)
  have g__law_few := He.glo_ok X G (c.fact 46 (f := .glo "_law_few") rfl)
  have g__law_many := He.glo_ok X G (c.fact 47 (f := .glo "_law_many") rfl)
  have g__law_dues := He.glo_ok X G (c.fact 48 (f := .glo "_law_dues") rfl)
  have g_law := He.glo_ok X G (c.fact 49 (f := .glo "law") rfl)
  have g_PieceError := He.glo_ok X G (c.fact 50 (f := .glo "PieceError") rfl)
  have g_PaperError := He.glo_ok X G (c.fact 51 (f := .glo "PaperError") rfl)
  have g_NetError := He.glo_ok X G (c.fact 52 (f := .glo "NetError") rfl)
  have g_InvalidPaper := He.glo_ok X G (c.fact 53 (f := .glo "InvalidPaper") rfl)
  have g_NotUsable := He.glo_ok X G (c.fact 54 (f := .glo "NotUsable") rfl)
  have b_abs := He.free_ok X G (c.fact 55 (f := .free "abs") rfl)
  have b_all := He.free_ok X G (c.fact 56 (f := .free "all") rfl)
  have b_any := He.free_ok X G (c.fact 57 (f := .free "any") rfl)
  have b_bool := He.free_ok X G (c.fact 58 (f := .free "bool") rfl)
  have b_enumerate := He.free_ok X G (c.fact 59 (f := .free "enumerate") rfl)
  have b_int := He.free_ok X G (c.fact 60 (f := .free "int") rfl)
  have b_isinstance := He.free_ok X G (c.fact 61 (f := .free "isinstance") rfl)
  have b_len := He.free_ok X G (c.fact 62 (f := .free "len") rfl)
  have b_list := He.free_ok X G (c.fact 63 (f := .free "list") rfl)
  have b_min := He.free_ok X G (c.fact 64 (f := .free "min") rfl)
  have b_repr := He.free_ok X G (c.fact 65 (f := .free "repr") rfl)
  have b_set := He.free_ok X G (c.fact 66 (f := .free "set") rfl)
  have b_sorted := He.free_ok X G (c.fact 67 (f := .free "sorted") rfl)
  have b_str := He.free_ok X G (c.fact 68 (f := .free "str") rfl)
  have b_sum := He.free_ok X G (c.fact 69 (f := .free "sum") rfl)
  have b_tuple := He.free_ok X G (c.fact 70 (f := .free "tuple") rfl)
  have b_zip := He.free_ok X G (c.fact 71 (f := .free "zip") rfl)
  have c_START := He.str_ok X G (c.fact 72 (f := .str "START" (Str.ofString "")) rfl)
  obtain ⟨e_InvalidPaper, r0⟩ := two (show ex K = true from c0.more)
  obtain ⟨e_NotUsable, r1⟩ := two r0
  have e_nd := r1
  have X_InvalidPaper := (exB_ok e_InvalidPaper).1
  have X_NotUsable := (exB_ok e_NotUsable).1
  have e := hfa.symm.trans g_law
  cases e
  have bl := FunD.bindsA (ps := ["_law_script"]) F_law fun _ _ _ _ _ _ us hl => match us, hl with | [_], _ => rfl
  refine ⟨fd_law, fun s v => bl s [v] rfl, fun base _ _ TB => ?_⟩
  have M_InvalidPaper : ExM P w K mg base "InvalidPaper" "word" "at" _ _ ["self", "word", "at"] := exM_of e_InvalidPaper g_InvalidPaper FI_InvalidPaper sc_InvalidPaper rfl (fun _ _ _ _ _ _ us hl => match us, hl with | [_, _, _], _ => rfl) (fun _ _ _ _ _ _ => pss_cons (ps_ost (pv 0) (pv 1)) (pss_one (ps_ost (pv 0) (pv 2)))) (fun _ _ _ _ _ _ _ => pss_cons (ps_ost (pv 0) (pv 1)) (pss_one (ps_ost (pv 0) (pv 2))))
  have M_NotUsable : ExM P w K mg base "NotUsable" "word" "at" _ _ ["self", "word", "at"] := exM_of e_NotUsable g_NotUsable FI_NotUsable sc_NotUsable rfl (fun _ _ _ _ _ _ us hl => match us, hl with | [_, _, _], _ => rfl) (fun _ _ _ _ _ _ => pss_cons (ps_ost (pv 0) (pv 1)) (pss_one (ps_ost (pv 0) (pv 2)))) (fun _ _ _ _ _ _ _ => pss_cons (ps_ost (pv 0) (pv 1)) (pss_one (ps_ost (pv 0) (pv 2))))
  have w_fewest_further_210 : ∀ (s : Shared) (ws : List Value), (perm [2, 1, 0] ws).length = 3 → BindsTo s fd_fewest_further ⟨[], (["giving", "holders", "net"] : List Str).zip ws⟩ ((["net", "holders", "giving"] : List Str).zip (perm [2, 1, 0] ws)) := kw_of (ps := ["net", "holders", "giving"]) F_fewest_further fun _ _ _ _ _ _ ws hl => match ws, hl with | [], hl => by simp [perm] at hl | [_], hl => by simp [perm] at hl | [_, _], hl => by simp [perm] at hl | _ :: _ :: _ :: _, _ => rfl
  have w_further_copies_210 : ∀ (s : Shared) (ws : List Value), (perm [2, 1, 0] ws).length = 3 → BindsTo s fd_further_copies ⟨[], (["giving", "holders", "net"] : List Str).zip ws⟩ ((["net", "holders", "giving"] : List Str).zip (perm [2, 1, 0] ws)) := kw_of (ps := ["net", "holders", "giving"]) F_further_copies fun _ _ _ _ _ _ ws hl => match ws, hl with | [], hl => by simp [perm] at hl | [_], hl => by simp [perm] at hl | [_, _], hl => by simp [perm] at hl | _ :: _ :: _ :: _, _ => rfl
  have w_apart_sets_210 : ∀ (s : Shared) (ws : List Value), (perm [2, 1, 0] ws).length = 3 → BindsTo s fd_apart_sets ⟨[], (["giving", "holders", "net"] : List Str).zip ws⟩ ((["net", "holders", "giving"] : List Str).zip (perm [2, 1, 0] ws)) := kw_of (ps := ["net", "holders", "giving"]) F_apart_sets fun _ _ _ _ _ _ ws hl => match ws, hl with | [], hl => by simp [perm] at hl | [_], hl => by simp [perm] at hl | [_, _], hl => by simp [perm] at hl | _ :: _ :: _ :: _, _ => rfl
  have C__steps : @Cal gT P w K mg base "_steps" 1 ["arcs", "flow"] (spP 2 (runP 7 m__steps)) _ _ := ⟨ok__steps b_enumerate F__steps, g__steps, F__steps.kp, FunD.bindsN F__steps fun _ _ _ _ _ _ us hl => match us, hl with | [_, _], _ => rfl⟩
  have C_reached : @Cal gT P w K mg base "reached" 2 ["arcs", "flow", "start"] (spP 3 (runP 10 m_reached)) _ _ := ⟨ok_reached C__steps F_reached, g_reached, F_reached.kp, FunD.bindsN F_reached fun _ _ _ _ _ _ us hl => match us, hl with | [_, _, _], _ => rfl⟩
  have C__open_path : @Cal gT P w K mg base "_open_path" 3 ["arcs", "flow", "start", "end"] (spPF 4 (runP 10 m__open_path) (frM 10 m__open_path)) _ _ := ⟨ok__open_path C_reached F__open_path, g__open_path, F__open_path.kp, FunD.bindsN F__open_path fun _ _ _ _ _ _ us hl => match us, hl with | [_, _, _, _], _ => rfl⟩
  have C_fullest_flow : @Cal gT P w K mg base "fullest_flow" 4 ["arcs", "start", "end"] (spP 3 (runP 9 m_fullest_flow)) _ _ := ⟨ok_fullest_flow b_abs b_min C__open_path F_fullest_flow, g_fullest_flow, F_fullest_flow.kp, FunD.bindsN F_fullest_flow fun _ _ _ _ _ _ us hl => match us, hl with | [_, _, _], _ => rfl⟩
  have C_arcs_of : @Cal gT P w K mg base "arcs_of" 1 ["links", "stocks"] (spP 2 (runP 7 m_arcs_of)) _ _ := ⟨ok_arcs_of b_enumerate b_list c_START F_arcs_of, g_arcs_of, F_arcs_of.kp, FunD.bindsN F_arcs_of fun _ _ _ _ _ _ us hl => match us, hl with | [_, _], _ => rfl⟩
  have C_most_brought : @Cal gT P w K mg base "most_brought" 5 ["links", "stocks", "house"] (spP 3 (runP 9 m_most_brought)) _ _ := ⟨ok_most_brought b_sum b_zip c_START C_fullest_flow C_arcs_of F_most_brought, g_most_brought, F_most_brought.kp, FunD.bindsN F_most_brought fun _ _ _ _ _ _ us hl => match us, hl with | [_, _, _], _ => rfl⟩
  have C_greatest_set : @Cal gT P w K mg base "greatest_set" 5 ["houses", "links", "stocks", "house"] (spP 4 (runP 7 m_greatest_set)) _ _ := ⟨ok_greatest_set b_tuple c_START C_reached C_fullest_flow C_arcs_of F_greatest_set, g_greatest_set, F_greatest_set.kp, FunD.bindsN F_greatest_set fun _ _ _ _ _ _ us hl => match us, hl with | [_, _, _, _], _ => rfl⟩
  have C_free_links : @Cal gT P w K mg base "free_links" 1 ["net", "giving"] (spP 2 (runP 5 m_free_links)) _ _ := ⟨ok_free_links b_zip F_free_links, g_free_links, F_free_links.kp, FunD.bindsN F_free_links fun _ _ _ _ _ _ us hl => match us, hl with | [_, _], _ => rfl⟩
  have C_single_stocks : @Cal gT P w K mg base "single_stocks" 1 ["found"] (spP 1 (runP 2 m_single_stocks)) _ _ := ⟨ok_single_stocks  F_single_stocks, g_single_stocks, F_single_stocks.kp, FunD.bindsN F_single_stocks fun _ _ _ _ _ _ us hl => match us, hl with | [_], _ => rfl⟩
  have C_is_integer : @Cal gT P w K mg base "is_integer" 1 ["thing"] (spP 1 (runP 1 m_is_integer)) _ _ := ⟨ok_is_integer b_bool b_int b_isinstance F_is_integer, g_is_integer, F_is_integer.kp, FunD.bindsN F_is_integer fun _ _ _ _ _ _ us hl => match us, hl with | [_], _ => rfl⟩
  have C_is_number : @Cal gT P w K mg base "is_number" 2 ["thing"] (spP 1 (runP 1 m_is_number)) _ _ := ⟨ok_is_number C_is_integer F_is_number, g_is_number, F_is_number.kp, FunD.bindsN F_is_number fun _ _ _ _ _ _ us hl => match us, hl with | [_], _ => rfl⟩
  have C_is_pair : @Cal gT P w K mg base "is_pair" 1 ["thing"] (spP 1 (runP 1 m_is_pair)) _ _ := ⟨ok_is_pair b_isinstance b_len b_tuple F_is_pair, g_is_pair, F_is_pair.kp, FunD.bindsN F_is_pair fun _ _ _ _ _ _ us hl => match us, hl with | [_], _ => rfl⟩
  have C_is_ascending : @Cal gT P w K mg base "is_ascending" 1 ["values"] (spP 1 (runP 3 m_is_ascending)) _ _ := ⟨ok_is_ascending b_all b_zip F_is_ascending, g_is_ascending, F_is_ascending.kp, FunD.bindsN F_is_ascending fun _ _ _ _ _ _ us hl => match us, hl with | [_], _ => rfl⟩
  have C_is_name : @Cal gT P w K mg base "is_name" 1 ["thing"] (spP 1 (runP 2 m_is_name)) _ _ := ⟨ok_is_name b_all b_isinstance b_len b_str F_is_name, g_is_name, F_is_name.kp, FunD.bindsN F_is_name fun _ _ _ _ _ _ us hl => match us, hl with | [_], _ => rfl⟩
  have C_is_name_pair : @Cal gT P w K mg base "is_name_pair" 2 ["thing"] (spP 1 (runP 1 m_is_name_pair)) _ _ := ⟨ok_is_name_pair C_is_pair C_is_name F_is_name_pair, g_is_name_pair, F_is_name_pair.kp, FunD.bindsN F_is_name_pair fun _ _ _ _ _ _ us hl => match us, hl with | [_], _ => rfl⟩
  have C_is_houses : @Cal gT P w K mg base "is_houses" 2 ["thing"] (spP 1 (runP 2 m_is_houses)) _ _ := ⟨ok_is_houses b_all b_isinstance b_tuple C_is_ascending C_is_name F_is_houses, g_is_houses, F_is_houses.kp, FunD.bindsN F_is_houses fun _ _ _ _ _ _ us hl => match us, hl with | [_], _ => rfl⟩
  have C_is_wire : @Cal gT P w K mg base "is_wire" 3 ["thing"] (spP 1 (runP 1 m_is_wire)) _ _ := ⟨ok_is_wire C_is_name_pair F_is_wire, g_is_wire, F_is_wire.kp, FunD.bindsN F_is_wire fun _ _ _ _ _ _ us hl => match us, hl with | [_], _ => rfl⟩
  have C_is_set_among : @Cal gT P w K mg base "is_set_among" 3 ["thing", "houses"] (spP 2 (runP 3 m_is_set_among)) _ _ := ⟨ok_is_set_among b_all C_is_houses F_is_set_among, g_is_set_among, F_is_set_among.kp, FunD.bindsN F_is_set_among fun _ _ _ _ _ _ us hl => match us, hl with | [_, _], _ => rfl⟩
  have C_is_wire_among : @Cal gT P w K mg base "is_wire_among" 4 ["thing", "houses"] (spP 2 (runP 2 m_is_wire_among)) _ _ := ⟨ok_is_wire_among C_is_wire F_is_wire_among, g_is_wire_among, F_is_wire_among.kp, FunD.bindsN F_is_wire_among fun _ _ _ _ _ _ us hl => match us, hl with | [_, _], _ => rfl⟩
  have C_lets_net : @Cal gT P w K mg base "lets_net" 5 ["thing"] (spP 1 (runP 7 m_lets_net)) _ _ := ⟨ok_lets_net b_enumerate b_isinstance b_len b_tuple C_is_pair C_is_houses C_is_wire_among F_lets_net, g_lets_net, F_lets_net.kp, FunD.bindsN F_lets_net fun _ _ _ _ _ _ us hl => match us, hl with | [_], _ => rfl⟩
  have C_need_net : @Cal gT P w K mg base "need_net" 6 ["net"] (spP 1 (runP 1 m_need_net)) _ _ := ⟨ok_need_net C_lets_net F_need_net, g_need_net, F_need_net.kp, FunD.bindsN F_need_net fun _ _ _ _ _ _ us hl => match us, hl with | [_], _ => rfl⟩
  have C_need_house : @Cal gT P w K mg base "need_house" 1 ["net", "house"] (spP 2 (runP 2 m_need_house)) _ _ := ⟨ok_need_house  F_need_house, g_need_house, F_need_house.kp, FunD.bindsN F_need_house fun _ _ _ _ _ _ us hl => match us, hl with | [_, _], _ => rfl⟩
  have C_lets_holders : @Cal gT P w K mg base "lets_holders" 7 ["net", "thing"] (spP 2 (runP 6 m_lets_holders)) _ _ := ⟨ok_lets_holders b_enumerate b_isinstance b_len b_tuple C_is_set_among C_need_net F_lets_holders, g_lets_holders, F_lets_holders.kp, FunD.bindsN F_lets_holders fun _ _ _ _ _ _ us hl => match us, hl with | [_, _], _ => rfl⟩
  have C_need_holders : @Cal gT P w K mg base "need_holders" 8 ["net", "holders"] (spP 2 (runP 2 m_need_holders)) _ _ := ⟨ok_need_holders C_lets_holders F_need_holders, g_need_holders, F_need_holders.kp, FunD.bindsN F_need_holders fun _ _ _ _ _ _ us hl => match us, hl with | [_, _], _ => rfl⟩
  have C_need_piece : @Cal gT P w K mg base "need_piece" 3 ["holders", "piece"] (spP 2 (runP 2 m_need_piece)) _ _ := ⟨ok_need_piece b_len C_is_number F_need_piece, g_need_piece, F_need_piece.kp, FunD.bindsN F_need_piece fun _ _ _ _ _ _ us hl => match us, hl with | [_, _], _ => rfl⟩
  have C_comers_to : @Cal gT P w K mg base "comers_to" 1 ["net", "held", "giving", "piece"] (spP 4 (runP 11 m_comers_to)) _ _ := ⟨ok_comers_to b_enumerate b_list F_comers_to, g_comers_to, F_comers_to.kp, FunD.bindsN F_comers_to fun _ _ _ _ _ _ us hl => match us, hl with | [_, _, _, _], _ => rfl⟩
  have C_comers : @Cal gT P w K mg base "comers" 2 ["net", "holders", "giving"] (spP 3 (runP 5 m_comers)) _ _ := ⟨ok_comers b_enumerate C_comers_to F_comers, g_comers, F_comers.kp, FunD.bindsN F_comers fun _ _ _ _ _ _ us hl => match us, hl with | [_, _, _], _ => rfl⟩
  have C_lets_giving : @Cal gT P w K mg base "lets_giving" 9 ["net", "holders", "thing"] (spP 3 (runP 7 m_lets_giving)) _ _ := ⟨ok_lets_giving b_enumerate b_isinstance b_len b_tuple C_is_integer C_need_holders C_comers F_lets_giving, g_lets_giving, F_lets_giving.kp, FunD.bindsN F_lets_giving fun _ _ _ _ _ _ us hl => match us, hl with | [_, _, _], _ => rfl⟩
  have C_need_giving : @Cal gT P w K mg base "need_giving" 10 ["net", "holders", "giving"] (spP 3 (runP 3 m_need_giving)) _ _ := ⟨ok_need_giving C_lets_giving F_need_giving, g_need_giving, F_need_giving.kp, FunD.bindsN F_need_giving fun _ _ _ _ _ _ us hl => match us, hl with | [_, _, _], _ => rfl⟩
  have C_laid : @Cal gT P w K mg base "laid" 9 ["net", "holders", "piece", "house"] (spP 4 (runP 5 m_laid)) _ _ := ⟨ok_laid b_sorted b_tuple C_need_house C_need_holders C_need_piece F_laid, g_laid, F_laid.kp, FunD.bindsN F_laid fun _ _ _ _ _ _ us hl => match us, hl with | [_, _, _, _], _ => rfl⟩
  have C_lacked_by : @Cal gT P w K mg base "lacked_by" 1 ["found", "houses"] (spP 2 (runP 5 m_lacked_by)) _ _ := ⟨ok_lacked_by b_any b_enumerate b_tuple F_lacked_by, g_lacked_by, F_lacked_by.kp, FunD.bindsN F_lacked_by fun _ _ _ _ _ _ us hl => match us, hl with | [_, _], _ => rfl⟩
  have C__need_numbers : @Cal gT P w K mg base "_need_numbers" 3 ["net", "numbers"] (spP 2 (runP 3 m__need_numbers)) _ _ := ⟨ok__need_numbers b_all b_isinstance b_len b_tuple C_is_number F__need_numbers, g__need_numbers, F__need_numbers.kp, FunD.bindsN F__need_numbers fun _ _ _ _ _ _ us hl => match us, hl with | [_, _], _ => rfl⟩
  have C__stocks : @Cal gT P w K mg base "_stocks" 2 ["net", "found", "numbers"] (spP 3 (runP 5 m__stocks)) _ _ := ⟨ok__stocks b_zip C_single_stocks F__stocks, g__stocks, F__stocks.kp, FunD.bindsN F__stocks fun _ _ _ _ _ _ us hl => match us, hl with | [_, _, _], _ => rfl⟩
  have C__least_room : @Cal gT P w K mg base "_least_room" 6 ["net", "found", "giving", "numbers", "house"] (spP 5 (runP 5 m__least_room)) _ _ := ⟨ok__least_room b_len C_most_brought C_free_links C__stocks F__least_room, g__least_room, F__least_room.kp, FunD.bindsN F__least_room fun _ _ _ _ _ _ us hl => match us, hl with | [_, _, _, _, _], _ => rfl⟩
  have C_enough : @Cal gT P w K mg base "enough" 11 ["net", "holders", "giving", "numbers"] (spP 4 (runP 6 m_enough)) _ _ := ⟨ok_enough b_all C_comers C_need_giving C__need_numbers C__least_room F_enough, g_enough, F_enough.kp, FunD.bindsN F_enough fun _ _ _ _ _ _ us hl => match us, hl with | [_, _, _, _], _ => rfl⟩
  have C_spared : @Cal gT P w K mg base "spared" 12 ["net", "holders", "giving", "numbers"] (spP 4 (runP 8 m_spared)) _ _ := ⟨ok_spared b_enumerate b_list b_min b_tuple C_comers C__least_room C_enough F_spared, g_spared, F_spared.kp, FunD.bindsN F_spared fun _ _ _ _ _ _ us hl => match us, hl with | [_, _, _, _], _ => rfl⟩
  have C_fewest_further : @Cal gT P w K mg base "fewest_further" 13 ["net", "holders", "giving"] (spP 3 (runP 4 m_fewest_further)) _ _ := ⟨ok_fewest_further b_len b_tuple C_need_giving C_spared F_fewest_further, g_fewest_further, F_fewest_further.kp, FunD.bindsN F_fewest_further fun _ _ _ _ _ _ us hl => match us, hl with | [_, _, _], _ => rfl⟩
  have C__without_room : @Cal gT P w K mg base "_without_room" 6 ["net", "found", "giving", "numbers", "house"] (spP 5 (runP 5 m__without_room)) _ _ := ⟨ok__without_room C_greatest_set C_free_links C__stocks F__without_room, g__without_room, F__without_room.kp, FunD.bindsN F__without_room fun _ _ _ _ _ _ us hl => match us, hl with | [_, _, _, _, _], _ => rfl⟩
  have C_further_copies : @Cal gT P w K mg base "further_copies" 14 ["net", "holders", "giving"] (spP 3 (runP 10 m_further_copies)) _ _ := ⟨ok_further_copies b_enumerate b_list b_sorted b_tuple C_comers C_laid C_lacked_by C_fewest_further C__without_room F_further_copies, g_further_copies, F_further_copies.kp, FunD.bindsN F_further_copies fun _ _ _ _ _ _ us hl => match us, hl with | [_, _, _], _ => rfl⟩
  have C_apart_sets : @Cal gT P w K mg base "apart_sets" 14 ["net", "holders", "giving"] (spP 3 (runP 7 m_apart_sets)) _ _ := ⟨ok_apart_sets b_set b_sorted b_tuple b_zip C_comers C_fewest_further C__without_room F_apart_sets, g_apart_sets, F_apart_sets.kp, FunD.bindsN F_apart_sets fun _ _ _ _ _ _ us hl => match us, hl with | [_, _, _], _ => rfl⟩
  have C__law_feed : @Cal gT P w K mg base "_law_feed" 1 ["_law_script"] (spFeed K) _ _ := ⟨ok__law_feed b_int F__law_feed, g__law_feed, F__law_feed.kp, FunD.bindsN F__law_feed fun _ _ _ _ _ _ us hl => match us, hl with | [_], _ => rfl⟩
  have C__law_draw : @Cal gT P w K mg base "_law_draw" 1 ["_law_feed_here", "_law_many_here"] (spF 2 (runF 7 m__law_draw)) _ _ := ⟨ok__law_draw b_int b_len F__law_draw, g__law_draw, F__law_draw.kp, FunD.bindsN F__law_draw fun _ _ _ _ _ _ us hl => match us, hl with | [_, _], _ => rfl⟩
  have C__law_any : @Cal gT P w K mg base "_law_any" 2 ["_law_feed_here", "_law_some"] (spF 2 (runF 2 m__law_any)) _ _ := ⟨ok__law_any b_len C__law_draw F__law_any, g__law_any, F__law_any.kp, FunD.bindsN F__law_any fun _ _ _ _ _ _ us hl => match us, hl with | [_, _], _ => rfl⟩
  have C__law_names : @Cal gT P w K mg base "_law_names" 3 ["_law_feed_here"] (spF 1 (runF 2 m__law_names)) _ _ := ⟨ok__law_names b_sorted C__law_any F__law_names, g__law_names, F__law_names.kp, FunD.bindsN F__law_names fun _ _ _ _ _ _ us hl => match us, hl with | [_], _ => rfl⟩
  have C__law_set : @Cal gT P w K mg base "_law_set" 1 ["_law_names_here", "_law_letters"] (spP 2 (runP 3 m__law_set)) _ _ := ⟨ok__law_set b_tuple F__law_set, g__law_set, F__law_set.kp, FunD.bindsN F__law_set fun _ _ _ _ _ _ us hl => match us, hl with | [_, _], _ => rfl⟩
  have C__law_scene : @Cal gT P w K mg base "_law_scene" 2 ["_law_names_here", "_law_many_here", "_law_lanes", "_law_first"] (spP 4 (runP 7 m__law_scene)) _ _ := ⟨ok__law_scene b_tuple C__law_set F__law_scene, g__law_scene, F__law_scene.kp, FunD.bindsN F__law_scene fun _ _ _ _ _ _ us hl => match us, hl with | [_, _, _, _], _ => rfl⟩
  have C__law_few : @Cal gT P w K mg base "_law_few" 1 [] (spP 0 (runP 3 m__law_few)) _ _ := ⟨ok__law_few  F__law_few, g__law_few, F__law_few.kp, FunD.bindsN F__law_few fun _ _ _ _ _ _ us hl => match us, hl with | [], _ => rfl⟩
  have C__law_many : @Cal gT P w K mg base "_law_many" 1 [] (spP 0 (runP 3 m__law_many)) _ _ := ⟨ok__law_many  F__law_many, g__law_many, F__law_many.kp, FunD.bindsN F__law_many fun _ _ _ _ _ _ us hl => match us, hl with | [], _ => rfl⟩
  have C__law_dues : @Cal gT P w K mg base "_law_dues" 2 ["_law_names_here", "_law_digits", "_law_copies", "_law_parts"] (spP 4 (runP 11 m__law_dues)) _ _ := ⟨ok__law_dues b_int b_repr b_tuple C__law_set F__law_dues, g__law_dues, F__law_dues.kp, FunD.bindsN F__law_dues fun _ _ _ _ _ _ us hl => match us, hl with | [_, _, _, _], _ => rfl⟩
  exact ok_law b_repr C_fewest_further C_further_copies C_apart_sets C__law_feed C__law_names C__law_scene C__law_few C__law_many C__law_dues w_fewest_further_210 w_further_copies_210 w_apart_sets_210 F_law ok
end H52
open PySem PySem.W PySem.Calls PyProof.Rows
theorem H52.holds (ok : AP.lawOk 14 H52.m_law) : PySem.Challenge.rw_allpieces_k52_further_told.Holds := by
  w_on; o_law
  refine HandSHeadRun.head_any (r := OpenLaw.row PySem.Challenge.rw_allpieces_k52_further_told) (q := view (OpenLaw.row PySem.Challenge.rw_allpieces_k52_further_told).prog [70]) (H := H52.hk) (ob := H52.ob) (M := 6000) (loose := ([PySem.Str.ofString "fullest_flow", PySem.Str.ofString "reached", PySem.Str.ofString "_steps", PySem.Str.ofString "_open_path", PySem.Str.ofString "START", PySem.Str.ofString "most_brought", PySem.Str.ofString "greatest_set", PySem.Str.ofString "arcs_of", PySem.Str.ofString "free_links", PySem.Str.ofString "single_stocks", PySem.Str.ofString "PieceError", PySem.Str.ofString "PaperError", PySem.Str.ofString "NetError", PySem.Str.ofString "InvalidPaper", PySem.Str.ofString "NotUsable", PySem.Str.ofString "is_integer", PySem.Str.ofString "is_number", PySem.Str.ofString "is_pair", PySem.Str.ofString "is_ascending", PySem.Str.ofString "is_name", PySem.Str.ofString "is_name_pair", PySem.Str.ofString "is_houses", PySem.Str.ofString "is_wire", PySem.Str.ofString "is_set_among", PySem.Str.ofString "is_wire_among", PySem.Str.ofString "lets_net", PySem.Str.ofString "need_net", PySem.Str.ofString "need_house", PySem.Str.ofString "lets_holders", PySem.Str.ofString "need_holders", PySem.Str.ofString "need_piece", PySem.Str.ofString "comers_to", PySem.Str.ofString "comers", PySem.Str.ofString "lets_giving", PySem.Str.ofString "need_giving", PySem.Str.ofString "laid", PySem.Str.ofString "lacked_by", PySem.Str.ofString "enough", PySem.Str.ofString "spared", PySem.Str.ofString "fewest_further", PySem.Str.ofString "further_copies", PySem.Str.ofString "apart_sets", PySem.Str.ofString "_need_numbers", PySem.Str.ofString "_stocks", PySem.Str.ofString "_least_room", PySem.Str.ofString "_without_room", PySem.Str.ofString "_law_feed", PySem.Str.ofString "_law_draw", PySem.Str.ofString "_law_any", PySem.Str.ofString "_law_names", PySem.Str.ofString "_law_set", PySem.Str.ofString "_law_scene", PySem.Str.ofString "_law_few", PySem.Str.ofString "_law_many", PySem.Str.ofString "_law_dues"] : List PySem.Str)) (d := HandSHeadRun.topDef (OpenLaw.row PySem.Challenge.rw_allpieces_k52_further_told).prog 70) (kwd := []) H52.ob_eq
    (by kernel_rfl) (fun s => by kernel_rfl) H52.run (by kernel_rfl) (by kernel_rfl) (by kernel_rfl) (by rfl) (by first | assumption | decide +kernel) (by decide +kernel) ⟨rfl, rfl, rfl, rfl, rfl, by decide +kernel⟩ ?hw ?hc
  case hw => w_witness2
  case hc =>
    refine AP.end_lawT (l := PySem.Challenge.rw_allpieces_k52_further_told) (k := 15) (x := "_law_script") rfl (by kernel_rfl) ⟨rfl, by decide, by decide⟩ ?F
    intro w mg fa h Y G hmg0
    obtain ⟨K, KX, c⟩ := Y
    have hmg : mg ("law" : PySem.Str) = some (.ref fa) := by
      have e : (HandSHeadRun.topDef (OpenLaw.row PySem.Challenge.rw_allpieces_k52_further_told).prog 70).name = ("law" : PySem.Str) := by kernel_rfl
      rw [← e]
      exact hmg0
    obtain ⟨fd, hb, hF⟩ := H52.facts (P := (PySem.Challenge.rw_allpieces_k52_further_told).prog) (w := w) KX G hmg c ok
    obtain ⟨m1, m2, m3⟩ := AP.makers_ok KX c
    exact ⟨K, fd, _, KX, m1, m2, m3, hb, hF⟩

theorem PySem.Challenge.cw_allpieces_k52_further_told_holds : PySem.Challenge.rw_allpieces_k52_further_told.Holds := by
  letI : AP.Tbls := AP.noTbls
  exact H52.holds H52.law_ok


