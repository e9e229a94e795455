import PyProof.Rows.All
import Wide.All
import OpenK.AllK
import Wide.FinOn
import HandS.ForMost
import HandS.Deep
import HandS.Walk
import HandS.Zip
import HandS.IsInst
import HandS.TupAny
import HandS.TupMul
import HandS.DictComp
import HandS.WordsExc
import HandS.Defaults
import HandS.Flow
import HandS.Wide
import HandS.Lambda
import HandS.Conv
import PyProof.ReprRoads
import PyProof.CallFns
import KE.GoesEnum
import KE.GoesMore
import PyProof.StrLawsRepr
import HandS.ExcCtx
import HandS.SuiteRaise
import HandS.RaiseFrom
import HandS.ExcInit
import HandS.ExcInitHot
import HandS.HotCalls
import HandS.HeadHook1
import HandS.SetFor
import HandS.ExcIs
import HandS.ExcField
import KE.KExcIs
import HandS.Star
import HandS.FStr
import HandS.More
import HandS.RaiseMore
import HandS.ExcBuiltin
import HandS.Sort
import HandS.Style
import HandS.EndTab
import HandS.HeadHook3
import HandS.HeadHook4
import PyProof.TupleOfSeq
import HandS.Strs
import PyProof.ListStr
import HandS.SortKw
import HandS.Replace
import HandS.SetKeys
import KE.DataCmp
import KE.DataMinMax
import KE.SortData
import PyProof.Rows.SeqCalls
import PyProof.Rows.FactsN_abs
import HandS.TupSets
import KE.KDictKeyed
import KE.SortLaws
import KE.KDictZip
import PyProof.Draws
import KE.GoesEnumKw
import KE.KUnpackStar
import PyProof.StrOps2
import PyProof.TupleOfStr
import KE.KStateDown
import Lean
import HandS.Head0
import HandS.Head1
import HandS.Head2
import HandS.HeadEnd
import HandS.HeadHook2
import PySem.Challenge.RW_allpieces_k18_whole_idle_wires
set_option Elab.async false
set_option linter.all false
set_option maxRecDepth 100000
set_option maxHeartbeats 0
namespace AP
open PySem PySem.Spec PyProof.Rows L2
abbrev tupOb (us : List Value) : Obj := { cls := .type "tuple", data := .seq us.toArray }
def nTup (xs : List V) (H : Hp) (Q : VK) : Prop := ∀ p o, H p = none → o.dict = none → Q (.ref p) (upd H p (.frz o (.tup xs)))
section
variable {X : Cx} {pins : List (Addr × Obj)} {σ : L2.St} {H : Hp} {s : Shared} {vs : List V} {us : List Value} {Q : VK}
theorem laidTup {h' : Heap} {tk : Nat} (I : Inv X pins σ H { s with heap := h', toks := tk }) (r : Vals vs us) (hz : vs.length ≤ sizeLine) (q : nTup vs H Q) :
    EP X pins σ Q (.ref h'.objs.size) { s with heap := h'.push (tupOb us), toks := tk } := by
  refine ⟨.ref h'.objs.size, _, I.laid (t' := tk) (o := .frz (tupOb us) (.tup vs)) (fun b ob e => Heap.get?_push_of_some _ e) (Nat.le_refl _) ?_, rfl, q _ (tupOb us) (I.hok.fresh (Nat.le_refl _)) rfl⟩
  exact ⟨Heap.get?_push_size _ rfl, hz, us, r, ⟨_, Heap.get?_push_size _ rfl, rfl, _, rfl⟩⟩
end
section
variable {X : Cx} {es : List Expr} {t : TA} {pos : Pos}
def tTupF (t : TA) : TE := fun σ H Q => t σ H fun xs H1 => xs.length ≤ sizeLine ∧ nTup xs H1 Q
theorem pe_tupF {x1} (h : PA X es t) : PE X (.Tuple es x1 pos) (tTupF t) :=
  ⟨fun pins s σ H Q I hq => wpAny_Tuple_spliced (thn (h.run pos pins s σ H _ I hq) fun us s1 ⟨xs, H1, I1, r, z, q⟩ => ⟨by rw [← r.length]; exact z, laidTup (s := s1) (h' := s1.heap) (tk := s1.toks) I1 r z q⟩)⟩
def rCatF (K : PySem.W.Frag) : R2 := fun x y H Q => ∃ a b xs ys, x = .ref a ∧ y = .ref b ∧ SqT K H a xs ∧ SqT K H b ys ∧ xs.length + ys.length ≤ sizeLine ∧
  (xs = [] → Q (.ref b) H) ∧ (xs ≠ [] → ys = [] → Q (.ref a) H) ∧ (xs ≠ [] → ys ≠ [] → nTup (xs ++ ys) H Q)
theorem op_catF : OpR X (binaryOp .Add) (rCatF X.K) := by
  intro pins s σ H x y v u Q I rx ry h
  obtain ⟨a, b, xs, ys, rfl, rfl, ha, hb, hz, q0, q1, q2⟩ := h
  cases rx
  cases ry
  obtain ⟨its, r1, p1, _⟩ := I.tuple ha
  obtain ⟨its2, r2, p2, _⟩ := I.tuple hb
  by_cases hx : xs = []
  · subst hx
    cases r1
    exact cat_tup0 p1 p2 ⟨.ref b, H, I, rfl, q0 rfl⟩
  · refine HT.cat_tup p1 p2 (fun z => hx (r1.nil_iff.mp z)) (fun z => ⟨.ref a, H, I, rfl, q1 hx (r2.nil_iff.mp z)⟩) (fun z => ?_) (by rw [← r1.length, ← r2.length]; exact hz)
    exact laidTup (s := s) (h' := s.heap) (tk := s.toks) I (r1.append r2) (by rw [List.length_append]; exact hz) (q2 hx fun w => z (r2.nil_iff.mpr w))
def rSlF (K : PySem.W.Frag) : V → Option Int → Option Int → Hp → VK → Prop := fun x lo hi H Q => ∃ a xs, x = .ref a ∧ SqT K H a xs ∧
  (HT.sIx xs.length 0 lo = 0 ∧ HT.sIx xs.length xs.length hi = xs.length → Q (.ref a) H) ∧ (¬ (HT.sIx xs.length 0 lo = 0 ∧ HT.sIx xs.length xs.length hi = xs.length) → nTup (cutV xs lo hi) H Q)
theorem sl_tupF : SlR X (rSlF X.K) := by
  intro pins s σ H x v vl vu lo hi sl Q I rx hs pl pu h
  obtain ⟨a, xs, rfl, hx, q1, q2⟩ := h
  cases rx
  obtain ⟨its, r, ht, hz⟩ := I.tuple hx
  have hlen : its.toArray.size = xs.length := by rw [List.size_toArray]; exact r.length.symm
  refine ⟨"tuple", _, PyProof.Rows.slot_tuple_getitem.lookup, ht.typeIs, ?_⟩
  by_cases hw : HT.sIx xs.length 0 lo = 0 ∧ HT.sIx xs.length xs.length hi = xs.length
  · exact getItem_tuple_whole ht hs pl pu (by rw [hlen]; exact hw) ⟨.ref a, H, I, rfl, q1 hw⟩
  · refine HT.getItem_tuple_cut ht hs pl pu (by rw [hlen]; exact hw) ?_ (by rw [hlen]; exact hz)
    rw [hlen]
    exact laidTup (s := s) (h' := s.heap) (tk := s.toks) I ((r.drop (HT.sIx xs.length 0 lo)).take (HT.sIx xs.length xs.length hi - HT.sIx xs.length 0 lo)) (Nat.le_trans (cutV_length xs lo hi) hz) (q2 hw)
def rTupleF (K : PySem.W.Frag) : List V → Hp → VK → Prop := fun xs H Q => ∃ p ys, xs = [.ref p] ∧ ((SqL K H p ys ∧ nTup ys H Q) ∨ (SqT K H p ys ∧ Q (.ref p) H))
theorem call_tupleF : CallR X (.type "tuple") (rTupleF X.K) := by
  intro pins s σ H xs us Q I r h
  obtain ⟨p, ys, rfl, h⟩ := h
  obtain ⟨u, rfl, rx⟩ := vals1 r
  cases rx
  rcases h with ⟨hq, q⟩ | ⟨hq, q⟩
  · obtain ⟨its, r', pl, hz⟩ := I.list hq
    have hl := r'.length
    refine call_tuple_list pl.isList (fun h' kp => ?_) (by rw [List.size_toArray]; omega)
    exact laidTup (s := s) (h' := h') (tk := s.toks) (I.kept (t' := s.toks) kp) r' hz q
  · obtain ⟨its, r', pl, hz⟩ := I.tuple hq
    exact call_tuple_same pl ⟨.ref p, H, I, rfl, q⟩
end
end AP
namespace AP
open PySem PySem.Spec PyProof.Rows L2
section
variable {X : Cx}
end
end AP

namespace AP
noncomputable section
open PySem PySem.Spec PyProof.Rows L2
class Tbls where
  T : List (Addr × Str)
variable [Tbls]
abbrev D := PyData
noncomputable def gS {α : Type} (l : List α) : Nat → Option α := List.rec (motive := fun _ => Nat → Option α) (fun _ => none) (fun a _ ih i => Nat.rec (motive := fun _ => Option α) (some a) (fun j _ => ih j) i) l
noncomputable def sS {α : Type} (v : α) (l : List α) : Nat → List α := List.rec (motive := fun _ => Nat → List α) (fun _ => []) (fun a r ih i => Nat.rec (motive := fun _ => List α) (v :: r) (fun j _ => a :: ih j) i) l
theorem gS_eq {α : Type} (l : List α) (i : Nat) : gS l i = l[i]? := by
  induction l generalizing i with
  | nil => rfl
  | cons a r ih =>
    cases i with
    | zero => rfl
    | succ j => exact ih j
theorem sS_eq {α : Type} (v : α) (l : List α) (i : Nat) : sS v l i = l.set i v := by
  induction l generalizing i with
  | nil => rfl
  | cons a r ih =>
    cases i with
    | zero => rfl
    | succ j => exact congrArg (a :: ·) (ih j)
abbrev Zs := Addr → Prop
def kD : Key → D
  | .inl i => .int i
  | .inr x => .str x
theorem kD_inj {a b : Key} (h : kD a = kD b) : a = b := by
  cases a <;> cases b <;> simp_all [kD]
def intsD : List D → Bool
  | [] => true
  | .int _ :: r => intsD r
  | _ => false
def tupsD : List D → Bool
  | [] => true
  | .tuple _ :: r => tupsD r
  | _ => false
def weakD (ds : List D) : Bool := decide (ds.length = 2) && !intsD ds && !tupsD ds
def TupAt (H : Hp) (a : Addr) (xs : List V) (w : Bool) : Prop := (∃ o, H a = some (.frz o (.tup xs)) ∧ o.dict = none) ∨ (w = true ∧ H a = some (.tup xs))
theorem TupAt.sq {H : Hp} {a : Addr} {xs : List V} {w : Bool} {K : PySem.W.Frag} (h : TupAt H a xs w) : SqT K H a xs := by
  rcases h with ⟨o, e, _⟩ | ⟨_, e⟩
  · exact .inl (.inr ⟨o, e⟩)
  · exact .inl (.inl e)
mutual
inductive Rp (Z : Zs) (H : Hp) : V → D → Prop
  | non : Rp Z H .non .none
  | bl (b : Bool) : Rp Z H (.bl b) (.bool b)
  | int (i : Int) : Rp Z H (.int i) (.int i)
  | str (x : Str) : Rp Z H (.str x) (.str x)
  | lst {a : Addr} {xs : List V} {ds : List D} : ¬ Z a → H a = some (.lst xs) → RpA Z H xs ds → Rp Z H (.ref a) (.list ds)
  | tup {a : Addr} {xs : List V} {ds : List D} : ¬ Z a → TupAt H a xs (weakD ds) → RpA Z H xs ds → Rp Z H (.ref a) (.tuple ds)
  | dct {a : Addr} {kvs : List (Key × V)} {ps : List (D × D)} : ¬ Z a → L2.Rd H a (.dK kvs) → RpK Z H kvs ps → Rp Z H (.ref a) (.dict ps)
inductive RpA (Z : Zs) (H : Hp) : List V → List D → Prop
  | nil : RpA Z H [] []
  | cons {v : V} {vs : List V} {d : D} {ds : List D} : Rp Z H v d → RpA Z H vs ds → RpA Z H (v :: vs) (d :: ds)
inductive RpK (Z : Zs) (H : Hp) : List (Key × V) → List (D × D) → Prop
  | nil : RpK Z H [] []
  | cons {k : Key} {v : V} {kvs : List (Key × V)} {d : D} {ps : List (D × D)} : Rp Z H v d → RpK Z H kvs ps → RpK Z H ((k, v) :: kvs) ((kD k, d) :: ps)
end
def nt (o : HO) : Prop := ∀ ps, o ≠ .tbl ps
theorem nt_lst {xs : List V} : nt (.lst xs) := fun _ z => nomatch z
theorem nt_tup {xs : List V} : nt (.tup xs) := fun _ z => nomatch z
theorem nt_frz {o : Obj} {u : HO} : nt (.frz o u) := fun _ z => nomatch z
theorem TupAt.mono {H H' : Hp} {a : Addr} {xs : List V} {w : Bool} (h : TupAt H a xs w) (k : ∀ o, H a = some o → nt o → H' a = some o) : TupAt H' a xs w := by
  rcases h with ⟨o, e, d⟩ | ⟨q, e⟩
  · exact .inl ⟨o, k _ e nt_frz, d⟩
  · exact .inr ⟨q, k _ e nt_tup⟩
theorem TupAt.ex {H : Hp} {a : Addr} {xs : List V} {w : Bool} (h : TupAt H a xs w) : ∃ o, H a = some o ∧ nt o := by
  rcases h with ⟨o, e, d⟩ | ⟨q, e⟩
  · exact ⟨_, e, nt_frz⟩
  · exact ⟨_, e, nt_tup⟩
theorem TupAt.ty {H : Hp} {a : Addr} {xs : List V} {w : Bool} {K : PySem.W.Frag} (h : TupAt H a xs w) : TyX K H (.ref a) (.type "tuple") := by
  rcases h with ⟨o, e, _⟩ | ⟨_, e⟩
  · exact .fTuple e
  · exact .base (.tup e)
theorem TupAt.new {H : Hp} {p : Addr} {o : Obj} {xs : List V} {w : Bool} (h : o.dict = none) : TupAt (upd H p (.frz o (.tup xs))) p xs w := .inl ⟨o, upd_same, h⟩
theorem nt_rng {lo hi : Int} : nt (.rng lo hi) := fun _ z => nomatch z
theorem nt_dK {xs : List (Key × V)} : nt (.dK xs) := fun _ z => nomatch z
def Has (H : Hp) (a : Addr) : Prop := ∃ o, H a = some o ∧ nt o
theorem Has.ne {H : Hp} {a : Addr} (h : Has H a) : H a ≠ none := by
  obtain ⟨o, e, _⟩ := h
  rw [e]; exact fun z => nomatch z
structure New (H H' : Hp) : Prop where
  at_ : ∀ a o, H a = some o → nt o → H' a = some o
  tab : LamX.Tabs Tbls.T H → LamX.Tabs Tbls.T H'
theorem New.dom {H H' : Hp} (n : New H H') (a : Addr) (h : Has H a) : Has H' a := by
  obtain ⟨o, e, t⟩ := h
  exact ⟨o, n.at_ a o e t, t⟩
theorem New.of {H H' : Hp} (k : ∀ a o, H a = some o → H' a = some o) : New H H' := ⟨fun a o e _ => k a o e, fun t => t.ext k⟩
theorem New.refl (H : Hp) : New H H := New.of fun _ _ h => h
theorem New.trans {H H1 H2 : Hp} (a : New H H1) (b : New H1 H2) : New H H2 := ⟨fun x o h t => b.at_ x o (a.at_ x o h t) t, fun t => b.tab (a.tab t)⟩
theorem New.upd {H : Hp} {p : Addr} {o : HO} (h : H p = none) : New H (upd H p o) := New.of fun a u e => by
  rw [upd_ne (ne_of_none e h)]; exact e
theorem tab_upd {H : Hp} {a P : Addr} {o o' : HO} {q : Str} (h : H a = some o) (n1 : nt o) (n2 : ∀ φ, o ≠ .ext φ) (t : LamX.TabS H P q) : LamX.TabS (upd H a o') P q := by
  obtain ⟨ps, h1, h2, h3⟩ := t
  have hP : P ≠ a := fun e => by rw [e, h] at h1; exact n1 ps (Option.some.inj h1)
  refine ⟨ps, by rw [upd_ne hP]; exact h1, h2, fun pos cv hc => ?_⟩
  obtain ⟨c, e1, e2⟩ := h3 pos cv hc
  have hc2 : c ≠ a := fun e => by rw [e, h] at e2; exact n2 _ (Option.some.inj e2)
  exact ⟨c, e1, by rw [upd_ne hc2]; exact e2⟩
mutual
theorem Rp.mono {Z Z' : Zs} {H H' : Hp} (k : ∀ a o, ¬ Z a → H a = some o → nt o → ¬ Z' a ∧ H' a = some o) : ∀ {v : V} {d : D}, Rp Z H v d → Rp Z' H' v d
  | _, _, .non => .non
  | _, _, .bl b => .bl b
  | _, _, .int i => .int i
  | _, _, .str x => .str x
  | _, _, .lst z h r => .lst (k _ _ z h nt_lst).1 (k _ _ z h nt_lst).2 (RpA.mono k r)
  | _, _, .tup z h r => .tup (h.ex.elim fun o e => (k _ o z e.1 e.2).1) (h.mono fun o e n => (k _ o z e n).2) (RpA.mono k r)
  | _, _, .dct z h r => .dct (h.elim (fun e => (k _ _ z e nt_dK).1) fun ⟨_, e⟩ => (k _ _ z e nt_frz).1) (h.elim (fun e => .inl (k _ _ z e nt_dK).2) fun ⟨ob, e⟩ => .inr ⟨ob, (k _ _ z e nt_frz).2⟩) (RpK.mono k r)
theorem RpA.mono {Z Z' : Zs} {H H' : Hp} (k : ∀ a o, ¬ Z a → H a = some o → nt o → ¬ Z' a ∧ H' a = some o) : ∀ {vs : List V} {ds : List D}, RpA Z H vs ds → RpA Z' H' vs ds
  | _, _, .nil => .nil
  | _, _, .cons h r => .cons (Rp.mono k h) (RpA.mono k r)
theorem RpK.mono {Z Z' : Zs} {H H' : Hp} (k : ∀ a o, ¬ Z a → H a = some o → nt o → ¬ Z' a ∧ H' a = some o) : ∀ {vs : List (Key × V)} {ds : List (D × D)}, RpK Z H vs ds → RpK Z' H' vs ds
  | _, _, .nil => .nil
  | _, _, .cons h r => .cons (Rp.mono k h) (RpK.mono k r)
end
section
variable {Z : Zs} {H H' : Hp}
theorem Rp.new {v : V} {d : D} (n : New H H') (h : Rp Z H v d) : Rp Z H' v d := h.mono fun a o z e t => ⟨z, n.at_ a o e t⟩
theorem RpA.new {v : List V} {d : List D} (n : New H H') (h : RpA Z H v d) : RpA Z H' v d := h.mono fun a o z e t => ⟨z, n.at_ a o e t⟩
theorem RpK.new {v : List (Key × V)} {d : List (D × D)} (n : New H H') (h : RpK Z H v d) : RpK Z H' v d := h.mono fun a o z e t => ⟨z, n.at_ a o e t⟩
theorem RpA.length : ∀ {vs : List V} {ds : List D}, RpA Z H vs ds → vs.length = ds.length
  | _, _, .nil => rfl
  | _, _, .cons _ r => by simp [RpA.length r]
theorem RpK.length : ∀ {vs : List (Key × V)} {ds : List (D × D)}, RpK Z H vs ds → vs.length = ds.length
  | _, _, .nil => rfl
  | _, _, .cons _ r => by simp [RpK.length r]
theorem RpA.get : ∀ {vs : List V} {ds : List D} {i : Nat} {d : D}, RpA Z H vs ds → ds[i]? = some d → ∃ v, vs[i]? = some v ∧ Rp Z H v d
  | _, _, _, _, .nil, e => by simp at e
  | _, _, 0, _, .cons h _, e => by simp at e; subst e; exact ⟨_, rfl, h⟩
  | _, _, i + 1, d, .cons _ r, e => by
    obtain ⟨v, a, b⟩ := RpA.get (i := i) (d := d) r (by simpa using e)
    exact ⟨v, by simpa using a, b⟩
theorem RpA.getV : ∀ {vs : List V} {ds : List D} {i : Nat} {v : V}, RpA Z H vs ds → vs[i]? = some v → ∃ d, ds[i]? = some d ∧ Rp Z H v d
  | _, _, _, _, .nil, e => by simp at e
  | _, _, 0, _, .cons h _, e => by simp at e; subst e; exact ⟨_, rfl, h⟩
  | _, _, i + 1, v, .cons _ r, e => by
    obtain ⟨d, a, b⟩ := RpA.getV (i := i) (v := v) r (by simpa using e)
    exact ⟨d, by simpa using a, b⟩
theorem RpA.append : ∀ {vs us : List V} {ds es : List D}, RpA Z H vs ds → RpA Z H us es → RpA Z H (vs ++ us) (ds ++ es)
  | _, _, _, _, .nil, s => s
  | _, _, _, _, .cons h r, s => .cons h (RpA.append r s)
theorem RpA.take : ∀ {vs : List V} {ds : List D} (n : Nat), RpA Z H vs ds → RpA Z H (vs.take n) (ds.take n)
  | _, _, 0, _ => .nil
  | _, _, _ + 1, .nil => .nil
  | _, _, n + 1, .cons h r => .cons h (RpA.take n r)
theorem RpA.drop : ∀ {vs : List V} {ds : List D} (n : Nat), RpA Z H vs ds → RpA Z H (vs.drop n) (ds.drop n)
  | _, _, 0, r => r
  | _, _, _ + 1, .nil => .nil
  | _, _, n + 1, .cons _ r => RpA.drop n r
def Rt (Z : Zs) (H : Hp) (v : V) : D → Prop
  | .none => v = .non
  | .bool b => v = .bl b
  | .int i => v = .int i
  | .str x => v = .str x
  | .list ds => ∃ a xs, v = .ref a ∧ H a = some (.lst xs) ∧ RpA Z H xs ds
  | .tuple ds => ∃ a xs, v = .ref a ∧ TupAt H a xs (weakD ds) ∧ RpA Z H xs ds ∧ ¬ Z a
  | .dict ps => ∃ a kvs, v = .ref a ∧ L2.Rd H a (.dK kvs) ∧ RpK Z H kvs ps
theorem Rp.rt {v : V} {d : D} (h : Rp Z H v d) : Rt Z H v d := by
  cases h with
  | non => rfl
  | bl b => rfl
  | int i => rfl
  | str x => rfl
  | lst z e r => exact ⟨_, _, rfl, e, r⟩
  | tup z e r => exact ⟨_, _, rfl, e, r, z⟩
  | dct z e r => exact ⟨_, _, rfl, e, r⟩
theorem Rd.new {a : Addr} {kvs : List (Key × V)} (n : New H H') (h : L2.Rd H a (.dK kvs)) : L2.Rd H' a (.dK kvs) := h.elim (fun e => .inl (n.at_ _ _ e nt_dK)) fun ⟨ob, e⟩ => .inr ⟨ob, n.at_ _ _ e nt_frz⟩
theorem Rt.new {v : V} {d : D} (n : New H H') (h : Rt Z H v d) : Rt Z H' v d := by
  cases d with
  | none => exact h
  | bool b => exact h
  | int i => exact h
  | str x => exact h
  | list ds => obtain ⟨a, xs, e, q, r⟩ := h; exact ⟨a, xs, e, n.at_ _ _ q nt_lst, r.new n⟩
  | tuple ds => obtain ⟨a, xs, e, q, r, z⟩ := h; exact ⟨a, xs, e, q.mono fun o e n2 => n.at_ _ _ e n2, r.new n, z⟩
  | dict ps => obtain ⟨a, xs, e, q, r⟩ := h; exact ⟨a, xs, e, Rd.new n q, r.new n⟩
end
mutual
def noD : D → Bool
  | .list ds => noDs ds
  | .tuple ds => noDs ds
  | .dict _ => false
  | _ => true
def noDs : List D → Bool
  | [] => true
  | d :: ds => noD d && noDs ds
end
mutual
theorem Rp.dp {K : PySem.W.Frag} {Z : Zs} {H : Hp} : ∀ {v : V} {d : D}, Rp Z H v d → noD d = true → Dp K H v d
  | _, _, .non, _ => .non
  | _, _, .bl b, _ => .bl b
  | _, _, .int i, _ => .int i
  | _, _, .str x, _ => .str x
  | _, _, .lst _ h r, e => .lst (SqL.of h) (RpA.dp r (by simpa [noD] using e))
  | _, _, .tup _ h r, e => .tup h.sq (RpA.dp r (by simpa [noD] using e))
  | _, _, .dct _ _ _, e => by simp [noD] at e
theorem RpA.dp {K : PySem.W.Frag} {Z : Zs} {H : Hp} : ∀ {vs : List V} {ds : List D}, RpA Z H vs ds → noDs ds = true → DpAll K H vs ds
  | _, _, .nil, _ => .nil
  | _, _, .cons h r, e => by
    simp only [noDs, Bool.and_eq_true] at e
    exact .cons (Rp.dp h e.1) (RpA.dp r e.2)
end
theorem Rt.dp {K : PySem.W.Frag} {Z : Zs} {H : Hp} {v : V} {d : D} (h : Rt Z H v d) (e : noD d = true) : Dp K H v d := by
  cases d with
  | none => cases h; exact .non
  | bool b => cases h; exact .bl b
  | int i => cases h; exact .int i
  | str x => cases h; exact .str x
  | list ds => obtain ⟨a, xs, rfl, q, r⟩ := h; exact .lst (SqL.of q) (r.dp (by simpa [noD] using e))
  | tuple ds => obtain ⟨a, xs, rfl, q, r, _⟩ := h; exact .tup q.sq (r.dp (by simpa [noD] using e))
  | dict ps => simp [noD] at e

inductive SV where
  | d (x : D) | m (k : Nat) | w (v : V) | q (lo hi : Int)
  /-- a tuple just made, of data and of objects that may still change -/
  | t (xs : List (D ⊕ Nat))
inductive MO where
  | l (ds : List D) | k (ps : List (Key × D))
  /-- a list of references to objects that may change, a dict of such -/
  | r (ks : List Nat) | g (ps : List (Key × Nat))
structure S where
  σ : List (Option SV)
  o : List MO
def zz (Z : Zs) (M : List Addr) : Zs := fun a => Z a ∨ a ∈ M
inductive RvB (Z : Zs) (M : List Addr) (H : Hp) : List V → List (D ⊕ Nat) → Prop
  | nil : RvB Z M H [] []
  | d {v : V} {x : D} {vs : List V} {xs : List (D ⊕ Nat)} : Rp (zz Z M) H v x → RvB Z M H vs xs → RvB Z M H (v :: vs) (.inl x :: xs)
  | m {a : Addr} {k : Nat} {vs : List V} {xs : List (D ⊕ Nat)} : M[k]? = some a → RvB Z M H vs xs → RvB Z M H (.ref a :: vs) (.inr k :: xs)
def Rv (Z : Zs) (M : List Addr) (H : Hp) (v : V) : SV → Prop
  | .d x => Rp (zz Z M) H v x
  | .m k => ∃ a, M[k]? = some a ∧ v = .ref a
  | .w u => v = u
  | .q lo hi => ∃ a, v = .ref a ∧ ¬ zz Z M a ∧ H a = some (.rng lo hi)
  | .t xs => ∃ a vs, v = .ref a ∧ ¬ zz Z M a ∧ TupAt H a vs false ∧ RvB Z M H vs xs
def kvD (ps : List (Key × D)) : List (D × D) := ps.map fun p => (kD p.1, p.2)
inductive RnA (M : List Addr) : List V → List Nat → Prop
  | nil : RnA M [] []
  | cons {a : Addr} {k : Nat} {vs : List V} {ks : List Nat} : M[k]? = some a → RnA M vs ks → RnA M (.ref a :: vs) (k :: ks)
inductive RnK (M : List Addr) : List (Key × V) → List (Key × Nat) → Prop
  | nil : RnK M [] []
  | cons {a : Addr} {k : Nat} {x : Key} {vs : List (Key × V)} {ks : List (Key × Nat)} : M[k]? = some a → RnK M vs ks → RnK M ((x, .ref a) :: vs) ((x, k) :: ks)
theorem get_pre {α : Type} {M e : List α} {k : Nat} {a : α} (h : M[k]? = some a) : (M ++ e)[k]? = some a := by
  rw [List.getElem?_append_left (List.getElem?_eq_some_iff.mp h).1]; exact h
theorem RnA.pre {M M' e : List Addr} (he : M' = M ++ e) : ∀ {vs : List V} {ks : List Nat}, RnA M vs ks → RnA M' vs ks
  | _, _, .nil => .nil
  | _, _, .cons h r => .cons (he ▸ get_pre h) (RnA.pre he r)
theorem RnK.pre {M M' e : List Addr} (he : M' = M ++ e) : ∀ {vs : List (Key × V)} {ks : List (Key × Nat)}, RnK M vs ks → RnK M' vs ks
  | _, _, .nil => .nil
  | _, _, .cons h r => .cons (he ▸ get_pre h) (RnK.pre he r)
def Ro (Z : Zs) (M : List Addr) (H : Hp) (a : Addr) : MO → Prop
  | .l ds => ∃ xs, H a = some (.lst xs) ∧ RpA (zz Z M) H xs ds
  | .k ps => ∃ kvs, H a = some (.dK kvs) ∧ RpK (zz Z M) H kvs (kvD ps)
  | .r ks => ∃ xs, H a = some (.lst xs) ∧ RnA M xs ks
  | .g ps => ∃ kvs, H a = some (.dK kvs) ∧ RnK M kvs ps
structure Rob (Z : Zs) (M : List Addr) (o : List MO) (H : Hp) : Prop where
  nd : M.Nodup
  zs : ∀ a, Z a → Has H a
  nz : ∀ a ∈ M, ¬ Z a
  len : o.length = M.length
  ob : ∀ (k : Nat) (a : Addr) (x : MO), M[k]? = some a → o[k]? = some x → Ro Z M H a x
  tb : LamX.Tabs Tbls.T H
structure Rel (Z : Zs) (M : List Addr) (s : S) (σ : L2.St) (H : Hp) : Prop where
  r : Rob Z M s.o H
  sl : ∀ (i : Nat) (sv : SV), s.σ[i]? = some (some sv) → ∃ v, σ[i]? = some (some v) ∧ Rv Z M H v sv
  sn : s.σ.length = σ.length
structure Ext (M : List Addr) (H : Hp) (M' : List Addr) (H' : Hp) : Prop where
  pre : ∃ e, M' = M ++ e
  out : ∀ a, a ∉ M → Has H a → a ∉ M'
  keep : ∀ a o, a ∉ M → H a = some o → nt o → H' a = some o
  dom : ∀ a, Has H a → Has H' a
  tab : LamX.Tabs Tbls.T H → LamX.Tabs Tbls.T H'
section
variable {Z : Zs} {M M' M1 M2 : List Addr} {H H' H1 H2 : Hp} {σ σ' : L2.St} {s : S}
theorem Ext.refl (M : List Addr) (H : Hp) : Ext M H M H := ⟨⟨[], by simp⟩, fun _ h _ => h, fun _ _ _ b _ => b, fun _ h => h, fun t => t⟩
theorem Ext.trans (a : Ext M H M1 H1) (b : Ext M1 H1 M2 H2) : Ext M H M2 H2 := by
  obtain ⟨⟨e, he⟩, u, k, d, t⟩ := a
  obtain ⟨⟨e2, he2⟩, u2, k2, d2, t2⟩ := b
  exact ⟨⟨e ++ e2, by rw [he2, he, List.append_assoc]⟩, fun x h1 h2 => u2 x (u x h1 h2) (d x h2), fun x o h1 h2 n => k2 x o (u x h1 ⟨o, h2, n⟩) (k x o h1 h2 n) n, fun x h => d2 x (d x h), fun h => t2 (t h)⟩
theorem Ext.new (n : New H H') : Ext M H M H' := ⟨⟨[], by simp⟩, fun a h _ => h, fun a o _ e t => n.at_ a o e t, n.dom, n.tab⟩
theorem Ext.mono_d (e : Ext M H M' H') {v : V} {d : D} (h : Rp (zz Z M) H v d) : Rp (zz Z M') H' v d := h.mono fun a o z q t => by
  have h1 : ¬ Z a := fun y => z (.inl y)
  have h2 : a ∉ M := fun y => z (.inr y)
  exact ⟨fun y => y.elim h1 (e.out a h2 ⟨o, q, t⟩), e.keep a o h2 q t⟩
theorem Ext.mono_a (e : Ext M H M' H') {v : List V} {d : List D} (h : RpA (zz Z M) H v d) : RpA (zz Z M') H' v d := h.mono fun a o z q t => by
  have h1 : ¬ Z a := fun y => z (.inl y)
  have h2 : a ∉ M := fun y => z (.inr y)
  exact ⟨fun y => y.elim h1 (e.out a h2 ⟨o, q, t⟩), e.keep a o h2 q t⟩
theorem Ext.mono_k (e : Ext M H M' H') {v : List (Key × V)} {d : List (D × D)} (h : RpK (zz Z M) H v d) : RpK (zz Z M') H' v d := h.mono fun a o z q t => by
  have h1 : ¬ Z a := fun y => z (.inl y)
  have h2 : a ∉ M := fun y => z (.inr y)
  exact ⟨fun y => y.elim h1 (e.out a h2 ⟨o, q, t⟩), e.keep a o h2 q t⟩
theorem Ext.rvB (e : Ext M H M' H') : ∀ {vs : List V} {xs : List (D ⊕ Nat)}, RvB Z M H vs xs → RvB Z M' H' vs xs
  | _, _, .nil => .nil
  | _, _, .d h t => .d (e.mono_d h) (e.rvB t)
  | _, _, .m q t => .m (by
    obtain ⟨x, he⟩ := e.pre
    rw [he, List.getElem?_append_left (List.getElem?_eq_some_iff.mp q).1]
    exact q) (e.rvB t)
theorem Ext.rv (e : Ext M H M' H') {v : V} {sv : SV} (h : Rv Z M H v sv) : Rv Z M' H' v sv := by
  cases sv with
  | d x => exact e.mono_d h
  | m k =>
    obtain ⟨a, q, r⟩ := h
    obtain ⟨x, he⟩ := e.pre
    refine ⟨a, ?_, r⟩
    rw [he, List.getElem?_append_left (List.getElem?_eq_some_iff.mp q).1]
    exact q
  | w u => exact h
  | q lo hi =>
    obtain ⟨a, rfl, z, g⟩ := h
    have h1 : ¬ Z a := fun y => z (.inl y)
    have h2 : a ∉ M := fun y => z (.inr y)
    exact ⟨a, rfl, fun y => y.elim h1 (e.out a h2 ⟨_, g, nt_rng⟩), e.keep a _ h2 g nt_rng⟩
  | t xs =>
    obtain ⟨a, vs, rfl, z, g, r⟩ := h
    have h1 : ¬ Z a := fun y => z (.inl y)
    have h2 : a ∉ M := fun y => z (.inr y)
    exact ⟨a, vs, rfl, fun y => y.elim h1 (e.out a h2 g.ex), g.mono fun o q n => e.keep a o h2 q n, e.rvB r⟩
theorem Rob.zzh (r : Rob Z M s.o H) : ∀ a, zz Z M a → Has H a := by
  intro a h
  rcases h with h | h
  · exact r.zs a h
  · obtain ⟨k, hk, e⟩ := List.getElem_of_mem h
    have h1 : M[k]? = some a := by rw [List.getElem?_eq_getElem hk, e]
    have hk2 : k < s.o.length := by rw [r.len]; exact hk
    have q := r.ob k a _ h1 (List.getElem?_eq_getElem hk2)
    cases e2 : s.o[k] with
    | l ds => rw [e2] at q; obtain ⟨xs, q, _⟩ := q; exact ⟨_, q, nt_lst⟩
    | k ps => rw [e2] at q; obtain ⟨xs, q, _⟩ := q; exact ⟨_, q, nt_dK⟩
    | r ds => rw [e2] at q; obtain ⟨xs, q, _⟩ := q; exact ⟨_, q, nt_lst⟩
    | g ps => rw [e2] at q; obtain ⟨xs, q, _⟩ := q; exact ⟨_, q, nt_dK⟩
theorem Rob.zzd (r : Rob Z M s.o H) : ∀ a, zz Z M a → H a ≠ none := fun a h => (r.zzh a h).ne
theorem Rob.new {o : List MO} (r : Rob Z M o H) (n : New H H') : Rob Z M o H' := by
  refine ⟨r.nd, fun a h => (Ext.new (M := M) n).dom a (r.zs a h), r.nz, r.len, fun k a x h1 h2 => ?_, n.tab r.tb⟩
  have q := r.ob k a x h1 h2
  cases x with
  | l ds => obtain ⟨xs, q1, q2⟩ := q; exact ⟨xs, n.at_ _ _ q1 nt_lst, q2.new n⟩
  | k ps => obtain ⟨xs, q1, q2⟩ := q; exact ⟨xs, n.at_ _ _ q1 nt_dK, q2.new n⟩
  | r ds => obtain ⟨xs, q1, q2⟩ := q; exact ⟨xs, n.at_ _ _ q1 nt_lst, q2⟩
  | g ps => obtain ⟨xs, q1, q2⟩ := q; exact ⟨xs, n.at_ _ _ q1 nt_dK, q2⟩
theorem Rel.new (r : Rel Z M s σ H) (n : New H H') : Rel Z M s σ H' :=
  ⟨r.r.new n, fun i sv h => by
    obtain ⟨v, q1, q2⟩ := r.sl i sv h
    exact ⟨v, q1, (Ext.new n).rv q2⟩, r.sn⟩
theorem Rel.put (r : Rel Z M s σ H) {i : Nat} {v : V} {sv : SV} (h : Rv Z M H v sv) : Rel Z M { s with σ := sS (some sv) s.σ i } (σ.set i (some v)) H := by
  rw [sS_eq]
  refine ⟨r.r, fun j w e => ?_, by simp [r.sn]⟩
  by_cases hj : i = j
  · subst hj
    by_cases hl : i < s.σ.length
    · rw [List.getElem?_set_self hl] at e
      cases e
      exact ⟨v, by rw [List.getElem?_set_self (by rw [← r.sn]; exact hl)], h⟩
    · rw [List.getElem?_eq_none (by simpa using hl)] at e; cases e
  · rw [List.getElem?_set_ne hj] at e
    obtain ⟨u, q1, q2⟩ := r.sl j w e
    exact ⟨u, by rw [List.getElem?_set_ne hj]; exact q1, q2⟩
theorem Rel.slots (r : Rel Z M s σ H) {τ : List (Option SV)} {σ' : L2.St} (hl : τ.length = σ'.length) (h : ∀ (i : Nat) sv, τ[i]? = some (some sv) → ∃ v, σ'[i]? = some (some v) ∧ Rv Z M H v sv) : Rel Z M { s with σ := τ } σ' H := ⟨r.r, h, hl⟩
end
def vw (o : List MO) : SV → Option D
  | .d x => some x
  | .m k => match o[k]? with
    | some (.l ds) => some (.list ds)
    | some (.k ps) => some (.dict (kvD ps))
    | _ => none
  | .w _ => none
  | .q _ _ => none
  | .t _ => none
theorem vw_ok {Z : Zs} {M : List Addr} {o : List MO} {H : Hp} {v : V} {sv : SV} {d : D} (r : Rob Z M o H) (h : Rv Z M H v sv) (e : vw o sv = some d) : Rt (zz Z M) H v d := by
  cases sv with
  | d x => cases e; exact Rp.rt h
  | m k =>
    obtain ⟨a, q, rfl⟩ := h
    simp only [vw] at e
    cases ho : o[k]? with
    | none => rw [ho] at e; cases e
    | some x =>
      rw [ho] at e
      have p := r.ob k a x q ho
      cases x with
      | l ds => cases e; obtain ⟨xs, p1, p2⟩ := p; exact ⟨a, xs, rfl, p1, p2⟩
      | k ps => cases e; obtain ⟨xs, p1, p2⟩ := p; exact ⟨a, xs, rfl, .inl p1, p2⟩
      | r ks => cases e
      | g ps => cases e
  | w u => cases e
  | q _ _ => cases e
  | t _ => cases e
end
end AP

namespace AP
noncomputable section
open PySem PySem.Spec PyProof.Rows L2
variable [Tbls]
structure Ex2 (M : List Addr) (H : Hp) (M' : List Addr) (H' : Hp) : Prop extends Ext M H M' H' where
  same : M' = M
theorem Ex2.refl (M : List Addr) (H : Hp) : Ex2 M H M H := ⟨Ext.refl M H, rfl⟩
theorem Ex2.trans {M M1 M2 : List Addr} {H H1 H2 : Hp} (a : Ex2 M H M1 H1) (b : Ex2 M1 H1 M2 H2) : Ex2 M H M2 H2 := ⟨a.toExt.trans b.toExt, b.same.trans a.same⟩
theorem Ex2.new {M : List Addr} {H H' : Hp} (n : New H H') : Ex2 M H M H' := ⟨Ext.new n, rfl⟩
abbrev EM := S → Option (SV × List MO)
abbrev TM := S → Option (Bool × List MO)
abbrev AM := S → Option (List SV × List MO)
def S.on (s : S) (o : List MO) : S := { s with o := o }
def Sn (t : TE) (m : EM) : Prop := ∀ Z M s σ H, Rel Z M s σ H → ∀ r o', m s = some (r, o') → ∀ Q : VK, (∀ M' v H', Ex2 M H M' H' → Rel Z M' (s.on o') σ H' → Rv Z M' H' v r → Q v H') → t σ H Q
def SnT (t : TT) (m : TM) : Prop := ∀ Z M s σ H, Rel Z M s σ H → ∀ r o', m s = some (r, o') → ∀ Q : Bool → Hp → Prop, (∀ M' H', Ex2 M H M' H' → Rel Z M' (s.on o') σ H' → Q r H') → t σ H Q
inductive RvA (Z : Zs) (M : List Addr) (H : Hp) : List V → List SV → Prop
  | nil : RvA Z M H [] []
  | cons {v : V} {vs : List V} {x : SV} {xs : List SV} : Rv Z M H v x → RvA Z M H vs xs → RvA Z M H (v :: vs) (x :: xs)
def SnA (t : TA) (m : AM) : Prop := ∀ Z M s σ H, Rel Z M s σ H → ∀ r o', m s = some (r, o') → ∀ Q : List V → Hp → Prop, (∀ M' vs H', Ex2 M H M' H' → Rel Z M' (s.on o') σ H' → RvA Z M' H' vs r → Q vs H') → t σ H Q
theorem Rel.ext_on {Z : Zs} {M M' : List Addr} {s : S} {σ : L2.St} {H H' : Hp} {o : List MO} (h : Rel Z M s σ H) (e : Ext M H M' H') (r : Rob Z M' o H') : Rel Z M' (s.on o) σ H' :=
  ⟨r, fun i sv q => by
    obtain ⟨v, q1, q2⟩ := h.sl i sv q
    exact ⟨v, q1, e.rv q2⟩, h.sn⟩
theorem RvA.ext {Z : Zs} {M M' : List Addr} {H H' : Hp} (e : Ext M H M' H') : ∀ {vs : List V} {xs : List SV}, RvA Z M H vs xs → RvA Z M' H' vs xs
  | _, _, .nil => .nil
  | _, _, .cons h r => .cons (e.rv h) (RvA.ext e r)
def R2D (r : R2) (g : D → D → Option D) : Prop := ∀ (Z : Zs) (H : Hp), (∀ a, Z a → H a ≠ none) → ∀ v1 v2 d1 d2 d, Rt Z H v1 d1 → Rt Z H v2 d2 → g d1 d2 = some d → ∀ Q : VK, (∀ v H', New H H' → Rp Z H' v d → Q v H') → r v1 v2 H Q
def R1D (r : V → Hp → VK → Prop) (g : D → Option D) : Prop := ∀ (Z : Zs) (H : Hp), (∀ a, Z a → H a ≠ none) → ∀ v1 d1 d, Rt Z H v1 d1 → g d1 = some d → ∀ Q : VK, (∀ v H', New H H' → Rp Z H' v d → Q v H') → r v1 H Q
inductive RtA (Z : Zs) (H : Hp) : List V → List D → Prop
  | nil : RtA Z H [] []
  | cons {v : V} {vs : List V} {d : D} {ds : List D} : Rt Z H v d → RtA Z H vs ds → RtA Z H (v :: vs) (d :: ds)
def RCD (r : List V → Hp → VK → Prop) (g : List D → Option D) : Prop := ∀ (Z : Zs) (H : Hp), (∀ a, Z a → H a ≠ none) → ∀ vs ds d, RtA Z H vs ds → g ds = some d → ∀ Q : VK, (∀ v H', New H H' → Rp Z H' v d → Q v H') → r vs H Q
def oel (a b : Option D) : Option D := match a with
  | some d => some d
  | none => b
theorem R2D.or {r r' : R2} {g g' : D → D → Option D} (h : R2D r g) (h' : R2D r' g') : R2D (fun x y H Q => r x y H Q ∨ r' x y H Q) (fun a b => oel (g a b) (g' a b)) := by
  intro Z H hz v1 v2 d1 d2 d r1 r2 e Q q
  cases eg : g d1 d2 with
  | some d' => simp only [oel, eg] at e; exact .inl (h Z H hz v1 v2 d1 d2 d r1 r2 (by rw [eg]; exact e) Q q)
  | none => simp only [oel, eg] at e; exact .inr (h' Z H hz v1 v2 d1 d2 d r1 r2 e Q q)
theorem RCD.or {r r' : List V → Hp → VK → Prop} {g g' : List D → Option D} (h : RCD r g) (h' : RCD r' g') : RCD (fun x H Q => r x H Q ∨ r' x H Q) (fun a => oel (g a) (g' a)) := by
  intro Z H hz v1 d1 d r1 e Q q
  cases eg : g d1 with
  | some d' => simp only [oel, eg] at e; exact .inl (h Z H hz v1 d1 d r1 (by rw [eg]; exact e) Q q)
  | none => simp only [oel, eg] at e; exact .inr (h' Z H hz v1 d1 d r1 e Q q)
def vws (o : List MO) : List SV → Option (List D)
  | [] => some []
  | x :: xs => match vw o x with
    | some d => (match vws o xs with
      | some ds => some (d :: ds)
      | none => none)
    | none => none
theorem vws_ok {Z : Zs} {M : List Addr} {o : List MO} {H : Hp} (r : Rob Z M o H) : ∀ {vs : List V} {xs : List SV} {ds : List D}, RvA Z M H vs xs → vws o xs = some ds → RtA (zz Z M) H vs ds
  | _, _, _, .nil, e => by simp only [vws] at e; cases e; exact .nil
  | _, _, _, .cons (x := x) (xs := xs) h t, e => by
    simp only [vws] at e
    cases e1 : vw o x with
    | none => rw [e1] at e; cases e
    | some d =>
      cases e2 : vws o xs with
      | none => rw [e1, e2] at e; cases e
      | some ds => rw [e1, e2] at e; cases e; exact .cons (vw_ok r h e1) (vws_ok r t e2)
def mVar (i : Nat) : EM := fun s => match gS s.σ i with
  | some (some v) => some (v, s.o)
  | _ => none
theorem sn_var {i : Nat} : Sn (tVar i) (mVar i) := by
  intro Z M s σ H h r o' e Q q
  unfold mVar at e
  rw [gS_eq] at e
  split at e
  · rename_i v hv
    cases e
    obtain ⟨u, h1, h2⟩ := h.sl i _ hv
    exact ⟨u, h1, q M u H (Ex2.refl M H) h h2⟩
  · cases e
def mC (d : D) : EM := fun s => some (.d d, s.o)
theorem sn_int {i : Int} : Sn (tC (.int i)) (mC (.int i)) := by
  intro Z M s σ H h r o' e Q q
  cases e
  exact q M _ H (Ex2.refl M H) h (.int i)
theorem sn_str {i : Str} : Sn (tC (.str i)) (mC (.str i)) := by
  intro Z M s σ H h r o' e Q q
  cases e
  exact q M _ H (Ex2.refl M H) h (.str i)
theorem sn_bl {i : Bool} : Sn (tC (.bl i)) (mC (.bool i)) := by
  intro Z M s σ H h r o' e Q q
  cases e
  exact q M _ H (Ex2.refl M H) h (.bl i)
def mOp (g : D → D → Option D) (a b : EM) : EM := fun s => match a s with
  | none => none
  | some (x, o1) => match b (s.on o1) with
    | none => none
    | some (y, o2) => match vw o2 x, vw o2 y with
      | some d1, some d2 => (match g d1 d2 with
        | some d => some (.d d, o2)
        | none => none)
      | _, _ => none
theorem sn_op {r : R2} {g : D → D → Option D} {ta tb : TE} {a b : EM} (hr : R2D r g) (ha : Sn ta a) (hb : Sn tb b) : Sn (tOp r ta tb) (mOp g a b) := by
  intro Z M s σ H h w o' e Q q
  unfold mOp at e
  cases ea : a s with
  | none => rw [ea] at e; cases e
  | some p =>
    obtain ⟨x, o1⟩ := p
    rw [ea] at e
    refine ha Z M s σ H h x o1 ea _ fun M1 v1 H1 e1 h1 r1 => ?_
    simp only at e
    cases eb : b (s.on o1) with
    | none => rw [eb] at e; cases e
    | some p2 =>
      obtain ⟨y, o2⟩ := p2
      rw [eb] at e
      refine hb Z M1 (s.on o1) σ H1 h1 y o2 eb _ fun M2 v2 H2 e2 h2 r2 => ?_
      simp only at e
      split at e
      · rename_i d1 d2 w1 w2
        split at e
        · rename_i d hd
          cases e
          refine hr (zz Z M2) H2 h2.r.zzd v1 v2 d1 d2 d (vw_ok h2.r (e2.rv r1) w1) (vw_ok h2.r r2 w2) hd Q fun v H' n p => ?_
          exact q M2 v H' ((e1.trans e2).trans (Ex2.new n)) (h2.new n) p
        · cases e
      · cases e
def mUn (g : D → Option D) (a : EM) : EM := fun s => match a s with
  | none => none
  | some (x, o1) => match vw o1 x with
    | none => none
    | some d1 => (match g d1 with
      | some d => some (.d d, o1)
      | none => none)
theorem sn_un {r : V → Hp → VK → Prop} {g : D → Option D} {ta : TE} {a : EM} (hr : R1D r g) (ha : Sn ta a) : Sn (tUn r ta) (mUn g a) := by
  intro Z M s σ H h w o' e Q q
  unfold mUn at e
  split at e
  · cases e
  · rename_i x o1 ea
    refine ha Z M s σ H h x o1 ea _ fun M1 v1 H1 e1 h1 r1 => ?_
    split at e
    · cases e
    · rename_i d1 w1
      split at e
      · rename_i d hd
        cases e
        refine hr (zz Z M1) H1 h1.r.zzd v1 d1 d (vw_ok h1.r r1 w1) hd Q fun v H' n p => ?_
        exact q M1 v H' (e1.trans (Ex2.new n)) (h1.new n) p
      · cases e
def mChain (g g' : D → D → Option D) (a b c : EM) : EM := fun s => match a s with
  | none => none
  | some (x, o1) => match b (s.on o1) with
    | none => none
    | some (y, o2) => match vw o2 x, vw o2 y with
      | some d1, some d2 => (match g d1 d2 with
        | some (.bool false) => some (.d (.bool false), o2)
        | some (.bool true) => (match c (s.on o2) with
          | none => none
          | some (z, o3) => match vw o3 y, vw o3 z with
            | some d3, some d4 => (match g' d3 d4 with
              | some d => some (.d d, o3)
              | none => none)
            | _, _ => none)
        | _ => none)
      | _, _ => none
theorem sn_chain {r r' : R2} {g g' : D → D → Option D} {ta tb tc : TE} {a b c : EM} (hr : R2D r g) (hr' : R2D r' g') (ha : Sn ta a) (hb : Sn tb b) (hc : Sn tc c) : Sn (tChain r r' ta tb tc) (mChain g g' a b c) := by
  intro Z M s σ H h w o' e Q q
  unfold mChain at e
  split at e
  · cases e
  · rename_i x o1 ea
    refine ha Z M s σ H h x o1 ea _ fun M1 v1 H1 e1 h1 r1 => ?_
    split at e
    · cases e
    · rename_i y o2 eb
      refine hb Z M1 (s.on o1) σ H1 h1 y o2 eb _ fun M2 v2 H2 e2 h2 r2 => ?_
      split at e
      · rename_i d1 d2 w1 w2
        split at e
        · rename_i hd
          cases e
          refine hr (zz Z M2) H2 h2.r.zzd v1 v2 d1 d2 _ (vw_ok h2.r (e2.rv r1) w1) (vw_ok h2.r r2 w2) hd _ fun v H' n p => ?_
          cases p
          exact ⟨false, rfl, by rw [if_neg (by decide)]; exact q M2 _ H' ((e1.trans e2).trans (Ex2.new n)) (h2.new n) (.bl false)⟩
        · rename_i hd
          refine hr (zz Z M2) H2 h2.r.zzd v1 v2 d1 d2 _ (vw_ok h2.r (e2.rv r1) w1) (vw_ok h2.r r2 w2) hd _ fun v H' n p => ?_
          cases p
          refine ⟨true, rfl, ?_⟩
          rw [if_pos rfl]
          split at e
          · cases e
          · rename_i z o3 ec
            refine hc Z M2 (s.on o2) σ H' (h2.new n) z o3 ec _ fun M3 v3 H3 e3 h3 r3 => ?_
            split at e
            · rename_i d3 d4 w3 w4
              split at e
              · rename_i d hd'
                cases e
                refine hr' (zz Z M3) H3 h3.r.zzd v2 v3 d3 d4 d (vw_ok h3.r (e3.rv ((Ex2.new n).rv r2)) w3) (vw_ok h3.r r3 w4) hd' Q fun v H'' n' p => ?_
                exact q M3 v H'' ((((e1.trans e2).trans (Ex2.new n)).trans e3).trans (Ex2.new n')) (h3.new n') p
              · cases e
            · cases e
        · cases e
      · cases e
def truD : D → Option Bool
  | .none => some false
  | .bool b => some b
  | .int i => some (i != 0)
  | .str x => if x.length ≤ 100000 then some (x.length != 0) else none
  | .list ds => some (!ds.isEmpty)
  | .tuple ds => some (!ds.isEmpty)
  | .dict ps => none
theorem small_line {n : Nat} (h : n ≤ 100000) : n ≤ sizeLine := Nat.le_trans h (by rw [sizeLine_eq]; decide)
theorem empA {Z : Zs} {H : Hp} {xs : List V} {ds : List D} (r : RpA Z H xs ds) : (!xs.isEmpty) = !ds.isEmpty := by cases r <;> rfl
theorem tru_of {K : PySem.W.Frag} {Z : Zs} {H : Hp} {v : V} {d : D} {k : Bool} (h : Rt Z H v d) (e : truD d = some k) : TruV K v H k := by
  cases d with
  | none => cases h; cases e; rfl
  | bool b => cases h; cases e; rfl
  | int i => cases h; cases e; rfl
  | str x =>
    cases h
    simp only [truD] at e
    split at e
    · rename_i hl
      cases e
      refine ⟨small_line hl, ?_⟩
      cases hx : x.length with
      | zero => rfl
      | succ n =>
        have h2 : (((n + 1 : Nat) : Int) != 0) = true := by
          rw [bne_iff_ne]; omega
        rw [h2]; rfl
    · cases e
  | list ds => obtain ⟨a, xs, rfl, q, r⟩ := h; cases e; exact .inl ⟨xs, SqL.of q, (empA r).symm⟩
  | tuple ds => obtain ⟨a, xs, rfl, q, r, _⟩ := h; cases e; exact .inr (.inl ⟨xs, q.sq, (empA r).symm⟩)
  | dict ps => cases e
def tTr (K : PySem.W.Frag) (ta : TE) : TT := fun σ H Q => ta σ H fun x H' => ∃ k, TruV K x H' k ∧ Q k H'
theorem pt_tr {X : Cx} {a : Expr} {ta : TE} (ha : PE X a ta) (he : ∀ whole, isTrue a X.env whole = (do let v ← whole; standAt a.pos; holding [v] (truthy v)) := by intro _; rfl) : PT X a (tTr X.K ta) := pt_truth ha he
def mTr (a : EM) : TM := fun s => match a s with
  | none => none
  | some (x, o1) => match vw o1 x with
    | none => none
    | some d => (match truD d with
      | none => none
      | some k => some (k, o1))
theorem sn_tr {K : PySem.W.Frag} {ta : TE} {a : EM} (ha : Sn ta a) : SnT (tTr K ta) (mTr a) := by
  intro Z M s σ H h w o' e Q q
  unfold mTr at e
  split at e
  · cases e
  · rename_i x o1 ea
    refine ha Z M s σ H h x o1 ea _ fun M1 v1 H1 e1 h1 r1 => ?_
    split at e
    · cases e
    · rename_i d hd
      split at e
      · cases e
      · rename_i k hk
        cases e
        exact ⟨_, tru_of (vw_ok h1.r r1 hd) hk, q M1 H1 e1 h1⟩
def mTest (a : EM) : TM := fun s => match a s with
  | some (.d (.bool k), o1) => some (k, o1)
  | _ => none
theorem sn_test {ta : TE} {a : EM} (ha : Sn ta a) : SnT (tTest ta) (mTest a) := by
  intro Z M s σ H h w o' e Q q
  unfold mTest at e
  split at e
  · rename_i k o1 ea
    cases e
    refine ha Z M s σ H h _ _ ea _ fun M1 v1 H1 e1 h1 r1 => ?_
    have r2 : Rp (zz Z M1) H1 v1 (.bool w) := r1
    cases r2
    exact ⟨w, rfl, q M1 H1 e1 h1⟩
  · cases e
def mAnd (a b : TM) : TM := fun s => match a s with
  | none => none
  | some (false, o1) => some (false, o1)
  | some (true, o1) => b (s.on o1)
def mOr (a b : TM) : TM := fun s => match a s with
  | none => none
  | some (true, o1) => some (true, o1)
  | some (false, o1) => b (s.on o1)
def mNot (a : TM) : TM := fun s => match a s with
  | none => none
  | some (k, o1) => some (!k, o1)
theorem sn_and {ta tb : TT} {a b : TM} (ha : SnT ta a) (hb : SnT tb b) : SnT (tAnd ta tb) (mAnd a b) := by
  intro Z M s σ H h w o' e Q q
  unfold mAnd at e
  split at e
  · cases e
  · rename_i o1 ea
    cases e
    refine ha Z M s σ H h _ _ ea _ fun M1 H1 e1 h1 => ?_
    rw [if_neg (by decide)]
    exact q M1 H1 e1 h1
  · rename_i o1 ea
    refine ha Z M s σ H h _ _ ea _ fun M1 H1 e1 h1 => ?_
    rw [if_pos rfl]
    exact hb Z M1 (s.on o1) σ H1 h1 w o' e Q fun M2 H2 e2 h2 => q M2 H2 (e1.trans e2) h2
theorem sn_or {ta tb : TT} {a b : TM} (ha : SnT ta a) (hb : SnT tb b) : SnT (tOr ta tb) (mOr a b) := by
  intro Z M s σ H h w o' e Q q
  unfold mOr at e
  split at e
  · cases e
  · rename_i o1 ea
    cases e
    refine ha Z M s σ H h _ _ ea _ fun M1 H1 e1 h1 => ?_
    rw [if_pos rfl]
    exact q M1 H1 e1 h1
  · rename_i o1 ea
    refine ha Z M s σ H h _ _ ea _ fun M1 H1 e1 h1 => ?_
    rw [if_neg (by decide)]
    exact hb Z M1 (s.on o1) σ H1 h1 w o' e Q fun M2 H2 e2 h2 => q M2 H2 (e1.trans e2) h2
theorem sn_not {ta : TT} {a : TM} (ha : SnT ta a) : SnT (tNot ta) (mNot a) := by
  intro Z M s σ H h w o' e Q q
  unfold mNot at e
  split at e
  · cases e
  · rename_i k o1 ea
    cases e
    exact ha Z M s σ H h _ _ ea _ fun M1 H1 e1 h1 => q M1 H1 e1 h1
def mAndV (a b : EM) : EM := fun s => match a s with
  | none => none
  | some (x, o1) => match vw o1 x with
    | none => none
    | some d => (match truD d with
      | none => none
      | some true => b (s.on o1)
      | some false => some (x, o1))
def mOrV (a b : EM) : EM := fun s => match a s with
  | none => none
  | some (x, o1) => match vw o1 x with
    | none => none
    | some d => (match truD d with
      | none => none
      | some false => b (s.on o1)
      | some true => some (x, o1))
def mNotV (a : EM) : EM := fun s => match a s with
  | none => none
  | some (x, o1) => match vw o1 x with
    | none => none
    | some d => (match truD d with
      | none => none
      | some k => some (.d (.bool (!k)), o1))
theorem sn_andV {K : PySem.W.Frag} {ta tb : TE} {a b : EM} (ha : Sn ta a) (hb : Sn tb b) : Sn (tAndT K ta tb) (mAndV a b) := by
  intro Z M s σ H h w o' e Q q
  unfold mAndV at e
  split at e
  · cases e
  · rename_i x o1 ea
    refine ha Z M s σ H h x o1 ea _ fun M1 v1 H1 e1 h1 r1 => ?_
    split at e
    · cases e
    · rename_i d hd
      split at e
      · cases e
      · rename_i hk
        refine ⟨_, tru_of (vw_ok h1.r r1 hd) hk, ?_⟩
        rw [if_pos rfl]
        exact hb Z M1 (s.on o1) σ H1 h1 w o' e Q fun M2 v2 H2 e2 h2 r2 => q M2 v2 H2 (e1.trans e2) h2 r2
      · rename_i hk
        cases e
        refine ⟨_, tru_of (vw_ok h1.r r1 hd) hk, ?_⟩
        rw [if_neg (by decide)]
        exact q M1 v1 H1 e1 h1 r1
theorem sn_notV {K : PySem.W.Frag} {ta : TE} {a : EM} (ha : Sn ta a) : Sn (tNotT K ta) (mNotV a) := by
  intro Z M s σ H h w o' e Q q
  unfold mNotV at e
  split at e
  · cases e
  · rename_i x o1 ea
    refine ha Z M s σ H h x o1 ea _ fun M1 v1 H1 e1 h1 r1 => ?_
    split at e
    · cases e
    · rename_i d hd
      split at e
      · cases e
      · rename_i k hk
        cases e
        exact ⟨_, tru_of (vw_ok h1.r r1 hd) hk, q M1 _ H1 e1 h1 (.bl _)⟩
def mIf (c : TM) (a b : EM) : EM := fun s => match c s with
  | none => none
  | some (true, o1) => a (s.on o1)
  | some (false, o1) => b (s.on o1)
theorem sn_if {tc : TT} {ta tb : TE} {c : TM} {a b : EM} (hc : SnT tc c) (ha : Sn ta a) (hb : Sn tb b) : Sn (tIf tc ta tb) (mIf c a b) := by
  intro Z M s σ H h w o' e Q q
  unfold mIf at e
  split at e
  · cases e
  · rename_i o1 ec
    refine hc Z M s σ H h _ _ ec _ fun M1 H1 e1 h1 => ?_
    rw [if_pos rfl]
    exact ha Z M1 (s.on o1) σ H1 h1 w o' e Q fun M2 v2 H2 e2 h2 r2 => q M2 v2 H2 (e1.trans e2) h2 r2
  · rename_i o1 ec
    refine hc Z M s σ H h _ _ ec _ fun M1 H1 e1 h1 => ?_
    rw [if_neg (by decide)]
    exact hb Z M1 (s.on o1) σ H1 h1 w o' e Q fun M2 v2 H2 e2 h2 r2 => q M2 v2 H2 (e1.trans e2) h2 r2
def mNil : AM := fun s => some ([], s.o)
def mCons (a : EM) (r : AM) : AM := fun s => match a s with
  | none => none
  | some (x, o1) => match r (s.on o1) with
    | none => none
    | some (xs, o2) => some (x :: xs, o2)
theorem sn_nil : SnA tNil mNil := by
  intro Z M s σ H h w o' e Q q
  cases e
  exact q M [] H (Ex2.refl M H) h .nil
theorem sn_cons {ta : TE} {tr : TA} {a : EM} {r : AM} (ha : Sn ta a) (hr : SnA tr r) : SnA (tCons ta tr) (mCons a r) := by
  intro Z M s σ H h w o' e Q q
  unfold mCons at e
  split at e
  · cases e
  · rename_i x o1 ea
    refine ha Z M s σ H h x o1 ea _ fun M1 v1 H1 e1 h1 r1 => ?_
    split at e
    · cases e
    · rename_i xs o2 er
      cases e
      refine hr Z M1 (s.on o1) σ H1 h1 _ _ er _ fun M2 vs H2 e2 h2 r2 => ?_
      exact q M2 (v1 :: vs) H2 (e1.trans e2) h2 (.cons (e2.rv r1) r2)
def dats : List SV → Option (List D)
  | [] => some []
  | .d x :: xs => (match dats xs with
    | some ds => some (x :: ds)
    | none => none)
  | _ :: _ => none
theorem dats_ok {Z : Zs} {M : List Addr} {H : Hp} : ∀ {vs : List V} {xs : List SV} {ds : List D}, RvA Z M H vs xs → dats xs = some ds → RpA (zz Z M) H vs ds
  | _, _, _, .nil, e => by simp only [dats] at e; cases e; exact .nil
  | _, _, _, .cons (x := x) (xs := xs) h t, e => by
    cases x with
    | d x =>
      simp only [dats] at e
      cases e2 : dats xs with
      | none => rw [e2] at e; cases e
      | some ds => rw [e2] at e; cases e; exact .cons h (dats_ok t e2)
    | m k => simp [dats] at e
    | w u => simp [dats] at e
    | q _ _ => simp [dats] at e
    | t _ => simp [dats] at e
def mTup (a : AM) : EM := fun s => match a s with
  | none => none
  | some (xs, o1) => match dats xs with
    | none => none
    | some ds => if ds.length ≤ 100000 then some (.d (.tuple ds), o1) else none
def mLst (a : AM) : EM := fun s => match a s with
  | none => none
  | some (xs, o1) => match dats xs with
    | none => none
    | some ds => if ds.length ≤ 100000 then some (.d (.list ds), o1) else none
theorem fresh_nz {Z : Zs} {H : Hp} (hz : ∀ a, Z a → H a ≠ none) {p : Addr} (hp : H p = none) : ¬ Z p := fun z => hz p z hp
theorem sn_tup {ta : TA} {a : AM} (ha : SnA ta a) : Sn (tTupF ta) (mTup a) := by
  intro Z M s σ H h w o' e Q q
  unfold mTup at e
  split at e
  · cases e
  · rename_i xs o1 ea
    refine ha Z M s σ H h _ _ ea _ fun M1 vs H1 e1 h1 r1 => ?_
    split at e
    · cases e
    · rename_i ds hd
      split at e
      · rename_i hl
        cases e
        have r2 := dats_ok r1 hd
        refine ⟨small_line (by rw [r2.length]; exact hl), fun p ob hp ho => ?_⟩
        have n := New.upd (o := .frz ob (.tup vs)) hp
        exact q M1 _ _ (e1.trans (Ex2.new n)) (h1.new n) (.tup (fresh_nz h1.r.zzd hp) (TupAt.new ho) (r2.new n))
      · cases e
theorem sn_lst {ta : TA} {a : AM} (ha : SnA ta a) : Sn (tLst ta) (mLst a) := by
  intro Z M s σ H h w o' e Q q
  unfold mLst at e
  split at e
  · cases e
  · rename_i xs o1 ea
    refine ha Z M s σ H h _ _ ea _ fun M1 vs H1 e1 h1 r1 => ?_
    split at e
    · cases e
    · rename_i ds hd
      split at e
      · rename_i hl
        cases e
        have r2 := dats_ok r1 hd
        refine ⟨small_line (by rw [r2.length]; exact hl), fun p hp => ?_⟩
        have n := New.upd (o := .lst vs) hp
        exact q M1 _ _ (e1.trans (Ex2.new n)) (h1.new n) (.lst (fresh_nz h1.r.zzd hp) upd_same (r2.new n))
      · cases e
def mCB (g : List D → Option D) (a : AM) : EM := fun s => match a s with
  | none => none
  | some (xs, o1) => match vws o1 xs with
    | none => none
    | some ds => (match g ds with
      | some d => some (.d d, o1)
      | none => none)
theorem sn_cb {r : List V → Hp → VK → Prop} {g : List D → Option D} {ta : TA} {a : AM} (hr : RCD r g) (ha : SnA ta a) : Sn (tCB r ta) (mCB g a) := by
  intro Z M s σ H h w o' e Q q
  unfold mCB at e
  split at e
  · cases e
  · rename_i xs o1 ea
    refine ha Z M s σ H h _ _ ea _ fun M1 vs H1 e1 h1 r1 => ?_
    split at e
    · cases e
    · rename_i ds hd
      split at e
      · rename_i d hg
        cases e
        refine hr (zz Z M1) H1 h1.r.zzd vs ds d (vws_ok h1.r r1 hd) hg Q fun v H' n p => ?_
        exact q M1 v H' (e1.trans (Ex2.new n)) (h1.new n) p
      · cases e
abbrev OM := S → Option (Option Int × List MO)
def SnO (t : TO) (m : OM) : Prop := ∀ Z M s σ H, Rel Z M s σ H → ∀ r o', m s = some (r, o') → ∀ Q : Option Int → Hp → Prop, (∀ M' H', Ex2 M H M' H' → Rel Z M' (s.on o') σ H' → Q r H') → t σ H Q
def mNoPart : OM := fun s => some (none, s.o)
def mPart (a : EM) : OM := fun s => match a s with
  | some (.d (.int i), o1) => some (some i, o1)
  | _ => none
theorem sn_nopart : SnO tNoPart mNoPart := by
  intro Z M s σ H h w o' e Q q
  cases e
  exact q M H (Ex2.refl M H) h
theorem sn_part {ta : TE} {a : EM} (ha : Sn ta a) : SnO (tPart ta) (mPart a) := by
  intro Z M s σ H h w o' e Q q
  unfold mPart at e
  split at e
  · rename_i i o1 ea
    cases e
    refine ha Z M s σ H h _ _ ea _ fun M1 v1 H1 e1 h1 r1 => ?_
    have r2 : Rp (zz Z M1) H1 v1 (.int i) := r1
    cases r2
    exact ⟨i, rfl, q M1 H1 e1 h1⟩
  · cases e
def RSD (r : V → Option Int → Option Int → Hp → VK → Prop) (g : D → Option Int → Option Int → Option D) : Prop := ∀ (Z : Zs) (H : Hp), (∀ a, Z a → H a ≠ none) → ∀ v1 d1 lo hi d, Rt Z H v1 d1 → g d1 lo hi = some d → ∀ Q : VK, (∀ v H', New H H' → Rp Z H' v d → Q v H') → r v1 lo hi H Q
theorem RSD.or {r r' : V → Option Int → Option Int → Hp → VK → Prop} {g g' : D → Option Int → Option Int → Option D} (h : RSD r g) (h' : RSD r' g') : RSD (fun x l u H Q => r x l u H Q ∨ r' x l u H Q) (fun a l u => oel (g a l u) (g' a l u)) := by
  intro Z H hz v1 d1 lo hi d r1 e Q q
  cases eg : g d1 lo hi with
  | some d' => simp only [oel, eg] at e; exact .inl (h Z H hz v1 d1 lo hi d r1 (by rw [eg]; exact e) Q q)
  | none => simp only [oel, eg] at e; exact .inr (h' Z H hz v1 d1 lo hi d r1 e Q q)
def mSl (g : D → Option Int → Option Int → Option D) (a : EM) (l u : OM) : EM := fun s => match a s with
  | none => none
  | some (x, o1) => match l (s.on o1) with
    | none => none
    | some (lo, o2) => match u (s.on o2) with
      | none => none
      | some (hi, o3) => match vw o3 x with
        | none => none
        | some d1 => (match g d1 lo hi with
          | some d => some (.d d, o3)
          | none => none)
theorem sn_sl {r : V → Option Int → Option Int → Hp → VK → Prop} {g : D → Option Int → Option Int → Option D} {ta : TE} {tl tu : TO} {a : EM} {l u : OM} (hr : RSD r g) (ha : Sn ta a) (hl : SnO tl l) (hu : SnO tu u) : Sn (tSl r ta tl tu) (mSl g a l u) := by
  intro Z M s σ H h w o' e Q q
  unfold mSl at e
  split at e
  · cases e
  · rename_i x o1 ea
    refine ha Z M s σ H h x o1 ea _ fun M1 v1 H1 e1 h1 r1 => ?_
    split at e
    · cases e
    · rename_i lo o2 el
      refine hl Z M1 (s.on o1) σ H1 h1 lo o2 el _ fun M2 H2 e2 h2 => ?_
      split at e
      · cases e
      · rename_i hi o3 eu
        refine hu Z M2 (s.on o2) σ H2 h2 hi o3 eu _ fun M3 H3 e3 h3 => ?_
        split at e
        · cases e
        · rename_i d1 w1
          split at e
          · rename_i d hd
            cases e
            refine hr (zz Z M3) H3 h3.r.zzd v1 d1 lo hi d (vw_ok h3.r (e3.rv (e2.rv r1)) w1) hd Q fun v H' n p => ?_
            exact q M3 v H' (((e1.trans e2).trans e3).trans (Ex2.new n)) (h3.new n) p
          · cases e
end
end AP

namespace AP
noncomputable section
open PySem PySem.Spec PyProof.Rows L2
variable [Tbls]
theorem size_ok {n : Nat} (h : n ≤ 100000) : n ≤ sizeLine := small_line h
def g2I (c : Int → Int → Bool) (f : Int → Int → D) : D → D → Option D
  | .int i, .int j => if c i j then some (f i j) else none
  | _, _ => none
theorem g2I_inv {c : Int → Int → Bool} {f : Int → Int → D} {a b d : D} (h : g2I c f a b = some d) : ∃ i j, a = .int i ∧ b = .int j ∧ c i j = true ∧ d = f i j := by
  unfold g2I at h
  split at h
  · split at h
    · rename_i i j hc
      cases h
      exact ⟨i, j, rfl, rfl, hc, rfl⟩
    · cases h
  · cases h
theorem r2_I {C : Int → Int → Prop} {c : Int → Int → Bool} {f : Int → Int → Int} (hc : ∀ i j, c i j = true → C i j) : R2D (rI C fun i j => .int (f i j)) (g2I c fun i j => .int (f i j)) := by
  intro Z H hz v1 v2 d1 d2 d r1 r2 e Q q
  obtain ⟨i, j, rfl, rfl, h1, rfl⟩ := g2I_inv e
  cases r1; cases r2
  exact ⟨i, j, rfl, rfl, hc i j h1, q _ H (New.refl H) (.int _)⟩
theorem r2_I0 {f : Int → Int → Int} : R2D (rI0 fun i j => .int (f i j)) (g2I (fun _ _ => true) fun i j => .int (f i j)) := by
  intro Z H hz v1 v2 d1 d2 d r1 r2 e Q q
  obtain ⟨i, j, rfl, rfl, h1, rfl⟩ := g2I_inv e
  cases r1; cases r2
  exact ⟨i, j, rfl, rfl, q _ H (New.refl H) (.int _)⟩
theorem r2_B0 {f : Int → Int → Bool} : R2D (rI0 fun i j => .bl (f i j)) (g2I (fun _ _ => true) fun i j => .bool (f i j)) := by
  intro Z H hz v1 v2 d1 d2 d r1 r2 e Q q
  obtain ⟨i, j, rfl, rfl, h1, rfl⟩ := g2I_inv e
  cases r1; cases r2
  exact ⟨i, j, rfl, rfl, q _ H (New.refl H) (.bl _)⟩
def g2S (f : Str → Str → Option D) : D → D → Option D
  | .str i, .str j => f i j
  | _, _ => none
theorem g2S_inv {f : Str → Str → Option D} {a b d : D} (h : g2S f a b = some d) : ∃ i j, a = .str i ∧ b = .str j ∧ f i j = some d := by
  unfold g2S at h
  split at h
  · exact ⟨_, _, rfl, rfl, h⟩
  · cases h
theorem r2_Sb {f : Str → Str → Bool} : R2D (fun x y H Q => ∃ i j, x = .str i ∧ y = .str j ∧ Q (.bl (f i j)) H) (g2S fun i j => some (.bool (f i j))) := by
  intro Z H hz v1 v2 d1 d2 d r1 r2 e Q q
  obtain ⟨i, j, rfl, rfl, e⟩ := g2S_inv e
  cases r1; cases r2; cases e
  exact ⟨i, j, rfl, rfl, q _ H (New.refl H) (.bl _)⟩
def gAddS : D → D → Option D := g2S fun i j => if i.length + j.length ≤ 100000 then some (.str (i ++ j)) else none
theorem r2_addS : R2D (fun x y H Q => ∃ i j, x = .str i ∧ y = .str j ∧ i.length + j.length ≤ sizeLine ∧ Q (.str (i ++ j)) H) gAddS := by
  intro Z H hz v1 v2 d1 d2 d r1 r2 e Q q
  obtain ⟨i, j, rfl, rfl, e'⟩ := g2S_inv e
  clear e
  cases r1; cases r2
  split at e'
  · rename_i h
    cases e'
    exact ⟨i, j, rfl, rfl, size_ok h, q _ H (New.refl H) (.str _)⟩
  · cases e'
def gAddL : D → D → Option D
  | .list xs, .list ys => if xs.length + ys.length ≤ 100000 then some (.list (xs ++ ys)) else none
  | _, _ => none
theorem r2_addL : R2D rCat gAddL := by
  intro Z H hz v1 v2 d1 d2 d r1 r2 e Q q
  unfold gAddL at e
  split at e
  · split at e
    · rename_i xs ys h
      cases e
      obtain ⟨a, us, rfl, ha, ra⟩ := r1
      obtain ⟨b, ws, rfl, hb, rb⟩ := r2
      refine ⟨a, b, us, ws, rfl, rfl, ha, hb, size_ok (by rw [ra.length, rb.length]; exact h), fun p hp => ?_⟩
      have n := New.upd (o := .lst (us ++ ws)) hp
      exact q _ _ n (.lst (fresh_nz hz hp) upd_same ((ra.append rb).new n))
    · cases e
  · cases e
def gAddT : D → D → Option D
  | .tuple xs, .tuple ys => if xs.length + ys.length ≤ 100000 then some (.tuple (xs ++ ys)) else none
  | _, _ => none
theorem rpA_nil {Z : Zs} {H : Hp} {us : List V} {xs : List D} (r : RpA Z H us xs) : us = [] ↔ xs = [] := by
  cases r <;> simp
theorem r2_addT {K : PySem.W.Frag} : R2D (rCatF K) gAddT := by
  intro Z H hz v1 v2 d1 d2 d r1 r2 e Q q
  unfold gAddT at e
  split at e
  · split at e
    · rename_i xs ys h
      cases e
      obtain ⟨a, us, rfl, ha, ra, na⟩ := r1
      obtain ⟨b, ws, rfl, hb, rb, nb⟩ := r2
      refine ⟨a, b, us, ws, rfl, rfl, ha.sq, hb.sq, size_ok (by rw [ra.length, rb.length]; exact h), fun e => ?_, fun _ e => ?_, fun _ _ p ob hp ho => ?_⟩
      · have e2 := (rpA_nil ra).mp e
        subst e2
        exact q _ H (New.refl H) (.tup nb hb rb)
      · have e2 := (rpA_nil rb).mp e
        subst e2
        rw [List.append_nil] at q
        exact q _ H (New.refl H) (.tup na ha ra)
      · have n := New.upd (o := .frz ob (.tup (us ++ ws))) hp
        exact q _ _ n (.tup (fresh_nz hz hp) (TupAt.new ho) ((ra.append rb).new n))
    · cases e
  · cases e
def shp (d : D) : Bool := noD d && SeqAt.shaped d
def gEq : D → D → Option D
  | .str x, .str y => some (.bool (decide (x = y)))
  | a, b => if shp a && shp b then some (.bool (PyData.eqv a b)) else none
def gNe : D → D → Option D
  | .str x, .str y => some (.bool (!decide (x = y)))
  | a, b => if shp a && shp b then some (.bool (!PyData.eqv a b)) else none
theorem dec_str' {x y : Str} : decide (V.str x = V.str y) = decide (x = y) := by
  by_cases h : x = y
  · simp [h]
  · simp [h]
theorem r2_eq {K : PySem.W.Frag} : R2D (fun x y H Q => rEq x y H Q ∨ rEqD K x y H Q) gEq := by
  intro Z H hz v1 v2 d1 d2 d r1 r2 e Q q
  unfold gEq at e
  split at e
  · cases r1; cases r2; cases e
    refine .inl ⟨rfl, ?_⟩
    rw [dec_str']
    exact q _ H (New.refl H) (.bl _)
  · split at e
    · rename_i h
      cases e
      simp only [shp, Bool.and_eq_true] at h
      exact .inr ⟨d1, d2, r1.dp h.1.1, r2.dp h.2.1, h.1.2, h.2.2, q _ H (New.refl H) (.bl _)⟩
    · cases e
theorem r2_ne {K : PySem.W.Frag} : R2D (fun x y H Q => rNe x y H Q ∨ rNeD K x y H Q) gNe := by
  intro Z H hz v1 v2 d1 d2 d r1 r2 e Q q
  unfold gNe at e
  split at e
  · cases r1; cases r2; cases e
    refine .inl ⟨rfl, ?_⟩
    rw [dec_str']
    exact q _ H (New.refl H) (.bl _)
  · split at e
    · rename_i h
      cases e
      simp only [shp, Bool.and_eq_true] at h
      exact .inr ⟨d1, d2, r1.dp h.1.1, r2.dp h.2.1, h.1.2, h.2.2, q _ H (New.refl H) (.bl _)⟩
    · cases e
theorem DGet.kR {H : Hp} {a : Addr} {kvs : List (Key × V)} {k : Key} (e : L2.Rd H a (.dK kvs)) : DGet H a (kV k) (valV kvs k) := .inl ⟨kvs, k, e, rfl, rfl⟩
def toKey : D → Option Key
  | .int i => some (.inl i)
  | .str x => some (.inr x)
  | _ => none
theorem toKey_inv {d : D} {k : Key} (h : toKey d = some k) : d = kD k := by
  cases d <;> simp [toKey] at h <;> subst h <;> rfl
def getP (ps : List (D × D)) (k : Key) : Option D := match ps with
  | [] => none
  | (a, b) :: r => if toKey a = some k then some b else getP r k
theorem getP_ok {Z : Zs} {H : Hp} : ∀ {kvs : List (Key × V)} {ps : List (D × D)} {k : Key}, RpK Z H kvs ps → (valV kvs k).isSome = (getP ps k).isSome ∧ ∀ d, getP ps k = some d → ∃ v, valV kvs k = some v ∧ Rp Z H v d
  | _, _, _, .nil => ⟨rfl, fun d h => nomatch h⟩
  | _, _, k, .cons (k := k') (kvs := kvs) (ps := ps) h r => by
    have e0 : toKey (kD k') = some k' := by cases k' <;> rfl
    by_cases hk : k' = k
    · subst hk
      rw [valV_pos rfl]
      simp only [getP, e0, if_true]
      exact ⟨rfl, fun d e => by cases e; exact ⟨_, rfl, h⟩⟩
    · rw [valV_neg hk]
      have e1 : ∀ d, getP ((kD k', d) :: ps) k = getP ps k := fun d => by
        simp only [getP, e0]
        rw [if_neg]
        intro z; exact hk (Option.some.inj z)
      rw [e1]
      exact getP_ok r
def gInB : D → D → Option Bool
  | .str x, .str y => (match x.cps.toList with
    | [c] => some (decide (c ∈ y.cps.toList))
    | _ => none)
  | x, .list ys => if shp x && shp (.list ys) then some (ys.any fun z => PyData.eqv z x) else none
  | x, .tuple ys => if shp x && shp (.tuple ys) then some (ys.any fun z => PyData.eqv z x) else none
  | x, .dict ps => (match toKey x with
    | some k => some (getP ps k).isSome
    | none => none)
  | _, _ => none
def gIn (a b : D) : Option D := (gInB a b).map PyData.bool
def gNotIn (a b : D) : Option D := (gInB a b).map fun k => PyData.bool (!k)
def rInA (K : PySem.W.Frag) (f : Bool → Bool) : R2 := fun x y H Q =>
  (∃ (c : Nat) (z : Str), x = .str ⟨#[c]⟩ ∧ y = .str z ∧ Q (.bl (f (decide (c ∈ z.cps.toList)))) H) ∨
  (∃ d ds, Dp K H x d ∧ Dp K H y (.list ds) ∧ SeqAt.shaped d = true ∧ SeqAt.shaped (.list ds) = true ∧ Q (.bl (f (ds.any fun z => PyData.eqv z d))) H) ∨
  (∃ d ds, Dp K H x d ∧ Dp K H y (.tuple ds) ∧ SeqAt.shaped d = true ∧ SeqAt.shaped (.tuple ds) = true ∧ Q (.bl (f (ds.any fun z => PyData.eqv z d))) H) ∨
  (∃ a o, y = .ref a ∧ DGet H a x o ∧ Q (.bl (f o.isSome)) H)
theorem op_inA {X : Cx} (hu : X.A.units + 65 < cLine) : OpR X (compareOp .In) (rInA X.K fun b => b) := by
  intro pins s σ H x y v u Q I rx ry h
  rcases h with ⟨c, z, h1, h2, q⟩ | ⟨d, ds, h1, h2, h3, h4, q⟩ | ⟨d, ds, h1, h2, h3, h4, q⟩ | ⟨a, o, h1, h2, q⟩
  · exact op_in_sign pins s σ H x y v u Q I rx ry ⟨c, z, h1, h2, q⟩
  · exact op_inD hu pins s σ H x y v u Q I rx ry ⟨d, ds, h1, h2, h3, h4, q⟩
  · obtain ⟨as, r1⟩ := Dp.reads I d x v h1 rx
    obtain ⟨bs, r2⟩ := Dp.reads I (.tuple ds) y u h2 ry
    exact SeqAt.in_tuple_reads r2 r1 (SeqAt.canLay_of_shaped h4) (SeqAt.canLay_of_shaped h3) (room_in_shaped h3 hu) ⟨.bl _, H, I, rfl, q⟩
  · subst h1
    cases ry
    exact d_in (by omega) I h2 rx fun s' I' => ⟨.bl _, H, I', rfl, q⟩
theorem op_notInA {X : Cx} (hu : X.A.units + 65 < cLine) : OpR X (compareOp .NotIn) (rInA X.K fun b => !b) := by
  intro pins s σ H x y v u Q I rx ry h
  rcases h with ⟨c, z, h1, h2, q⟩ | ⟨d, ds, h1, h2, h3, h4, q⟩ | ⟨d, ds, h1, h2, h3, h4, q⟩ | ⟨a, o, h1, h2, q⟩
  · exact op_notIn_sign pins s σ H x y v u Q I rx ry ⟨c, z, h1, h2, q⟩
  · exact op_notInD hu pins s σ H x y v u Q I rx ry ⟨d, ds, h1, h2, h3, h4, q⟩
  · obtain ⟨as, r1⟩ := Dp.reads I d x v h1 rx
    obtain ⟨bs, r2⟩ := Dp.reads I (.tuple ds) y u h2 ry
    exact SeqAt.notIn_tuple_reads r2 r1 (SeqAt.canLay_of_shaped h4) (SeqAt.canLay_of_shaped h3) (room_in_shaped h3 hu) ⟨.bl _, H, I, rfl, q⟩
  · subst h1
    cases ry
    exact d_notIn (by omega) I h2 rx fun s' I' => ⟨.bl _, H, I', rfl, q⟩
theorem key_rt {Z : Zs} {H : Hp} {v : V} {d : D} {k : Key} (h : Rt Z H v d) (e : toKey d = some k) : v = kV k := by
  have e2 := toKey_inv e
  subst e2
  cases k <;> exact h
theorem r2_in {K : PySem.W.Frag} {f : Bool → Bool} : R2D (rInA K f) (fun a b => (gInB a b).map fun k => PyData.bool (f k)) := by
  intro Z H hz v1 v2 d1 d2 d r1 r2 e Q q
  obtain ⟨k, e1, rfl⟩ := Option.map_eq_some_iff.mp e
  have q' : ∀ b, b = k → Q (.bl (f b)) H := fun b hb => by subst hb; exact q _ H (New.refl H) (.bl _)
  unfold gInB at e1
  split at e1
  · rename_i x y
    split at e1
    · rename_i c hc
      cases e1
      cases r1; cases r2
      have ex : x = ⟨#[c]⟩ := by
        cases x with
        | mk cps =>
          have : cps = #[c] := by
            apply Array.toList_inj.mp
            simpa using hc
          rw [this]
      subst ex
      exact .inl ⟨c, y, rfl, rfl, q' _ rfl⟩
    · cases e1
  · split at e1
    · rename_i x ys h
      cases e1
      simp only [shp, Bool.and_eq_true] at h
      exact .inr (.inl ⟨d1, ys, r1.dp h.1.1, r2.dp h.2.1, h.1.2, h.2.2, q' _ rfl⟩)
    · cases e1
  · split at e1
    · rename_i x ys h
      cases e1
      simp only [shp, Bool.and_eq_true] at h
      exact .inr (.inr (.inl ⟨d1, ys, r1.dp h.1.1, r2.dp h.2.1, h.1.2, h.2.2, q' _ rfl⟩))
    · cases e1
  · split at e1
    · rename_i x ps k' hk
      cases e1
      obtain ⟨a, kvs, rfl, ha, ra⟩ := r2
      have hv := key_rt r1 hk
      subst hv
      exact .inr (.inr (.inr ⟨a, _, rfl, DGet.kR ha, by rw [(getP_ok ra).1]; exact q' _ rfl⟩))
    · cases e1
  · cases e1
def rIxK : R2 := fun x y H Q => ∃ a k kvs v, x = .ref a ∧ y = kV k ∧ L2.Rd H a (.dK kvs) ∧ valV kvs k = some v ∧ Q v H
theorem ix_dK {X : Cx} (hu : X.A.units + 64 < cLine) : IxR X rIxK := by
  intro value slice pins s σ H x y v u Q I rx ry h hs
  obtain ⟨a, k, kvs, w, rfl, rfl, ha, hv, q⟩ := h
  cases rx
  have g : DGet H a (kV k) (some w) := by rw [← hv]; exact DGet.kR ha
  exact tail_any (dict_typeIs I g) PySem.F.slot_dict_getitem.lookup (d_getItem (by omega) I g ry fun w' s' I' r' => ⟨w, H, I', r', q⟩) hs
def rIxA (K : PySem.W.Frag) : R2 := fun x y H Q => rIx K x y H Q ∨ rIxK x y H Q
theorem ix_A {X : Cx} (hu : X.A.units + 64 < cLine) : IxR X (rIxA X.K) := ix_seq.or (ix_dK hu)
def gIx : D → D → Option D
  | .list xs, .int i => atI xs i
  | .tuple xs, .int i => atI xs i
  | .str z, .int i => if z.length ≤ 100000 then (atI z.cps.toList i).map fun c => PyData.str ⟨#[c]⟩ else none
  | .dict ps, d => (match toKey d with
    | some k => getP ps k
    | none => none)
  | _, _ => none
theorem atI_inv {α : Type} {xs : List α} {i : Int} {x : α} (h : atI xs i = some x) : ∃ j, ixN xs.length i = some j ∧ xs[j]? = some x := by
  unfold atI at h
  obtain ⟨j, h1, h2⟩ := Option.bind_eq_some_iff.mp h
  exact ⟨j, h1, h2⟩
theorem atI_rp {Z : Zs} {H : Hp} {us : List V} {xs : List D} {i : Int} {d : D} (r : RpA Z H us xs) (h : atI xs i = some d) : ∃ v, atI us i = some v ∧ Rp Z H v d := by
  obtain ⟨j, h1, h2⟩ := atI_inv h
  obtain ⟨v, h3, h4⟩ := r.get h2
  refine ⟨v, ?_, h4⟩
  unfold atI
  rw [r.length, h1]
  exact h3
theorem r2_ix {K : PySem.W.Frag} : R2D (rIxA K) gIx := by
  intro Z H hz v1 v2 d1 d2 d r1 r2 e Q q
  unfold gIx at e
  split at e
  · rename_i xs i
    obtain ⟨a, us, rfl, ha, ra⟩ := r1
    cases r2
    obtain ⟨v, h1, h2⟩ := atI_rp ra e
    exact .inl (.inl ⟨a, us, i, v, rfl, rfl, SqL.of ha, h1, q v H (New.refl H) h2⟩)
  · rename_i xs i
    obtain ⟨a, us, rfl, ha, ra, _⟩ := r1
    cases r2
    obtain ⟨v, h1, h2⟩ := atI_rp ra e
    exact .inl (.inr (.inl ⟨a, us, i, v, rfl, rfl, ha.sq, h1, q v H (New.refl H) h2⟩))
  · rename_i z i
    split at e
    · rename_i hl
      obtain ⟨c, h1, h2⟩ := Option.map_eq_some_iff.mp e
      subst h2
      cases r1
      cases r2
      exact .inl (.inr (.inr ⟨z, i, c, rfl, rfl, size_ok hl, h1, q _ H (New.refl H) (.str _)⟩))
    · cases e
  · rename_i ps d2'
    split at e
    · rename_i k hk
      obtain ⟨a, kvs, rfl, ha, ra⟩ := r1
      have hv := key_rt r2 hk
      subst hv
      obtain ⟨v, h1, h2⟩ := (getP_ok ra).2 d e
      exact .inr ⟨a, k, kvs, v, rfl, rfl, ha, h1, q v H (New.refl H) h2⟩
    · cases e
  · cases e
def cutD {α : Type} (xs : List α) (lo hi : Option Int) : List α := (xs.drop (HT.sIx xs.length 0 lo)).take (HT.sIx xs.length xs.length hi - HT.sIx xs.length 0 lo)
theorem cut_rp {Z : Zs} {H : Hp} {us : List V} {xs : List D} (r : RpA Z H us xs) (lo hi : Option Int) : RpA Z H (cutV us lo hi) (cutD xs lo hi) := by
  unfold cutV cutD
  rw [r.length]
  exact (r.drop _).take _
def gSl : D → Option Int → Option Int → Option D
  | .list xs, lo, hi => some (.list (cutD xs lo hi))
  | .tuple xs, lo, hi => some (.tuple (cutD xs lo hi))
  | .str z, lo, hi => if z.length ≤ 100000 then some (.str ⟨(cutD z.cps.toList lo hi).toArray⟩) else none
  | _, _, _ => none
def rSlU (K : PySem.W.Frag) : V → Option Int → Option Int → Hp → VK → Prop := fun x lo hi H Q => rSlL K x lo hi H Q ∨ rSlF K x lo hi H Q ∨ rSlS x lo hi H Q
theorem sl_U {X : Cx} : SlR X (rSlU X.K) := sl_list.or (sl_tupF.or sl_str)
theorem cut_whole {α : Type} (xs : List α) (lo hi : Option Int) (h : HT.sIx xs.length 0 lo = 0 ∧ HT.sIx xs.length xs.length hi = xs.length) : cutD xs lo hi = xs := by
  unfold cutD
  rw [h.1, h.2, List.drop_zero, Nat.sub_zero, List.take_length]
theorem rs_U {K : PySem.W.Frag} : RSD (rSlU K) gSl := by
  intro Z H hz v1 d1 lo hi d r1 e Q q
  unfold gSl at e
  split at e
  · rename_i xs
    cases e
    obtain ⟨a, us, rfl, ha, ra⟩ := r1
    refine .inl ⟨a, us, rfl, SqL.of ha, fun p hp => ?_⟩
    have n := New.upd (o := .lst (cutV us lo hi)) hp
    exact q _ _ n (.lst (fresh_nz hz hp) upd_same ((cut_rp ra lo hi).new n))
  · rename_i xs
    cases e
    obtain ⟨a, us, rfl, ha, ra, na⟩ := r1
    refine .inr (.inl ⟨a, us, rfl, ha.sq, fun hw => ?_, fun _ p ob hp ho => ?_⟩)
    · rw [ra.length] at hw
      rw [cut_whole xs lo hi hw] at q
      exact q _ H (New.refl H) (.tup na ha ra)
    · have n := New.upd (o := .frz ob (.tup (cutV us lo hi))) hp
      exact q _ _ n (.tup (fresh_nz hz hp) (TupAt.new ho) ((cut_rp ra lo hi).new n))
  · rename_i z
    split at e
    · rename_i hl
      cases e
      cases r1
      refine .inr (.inr ⟨z, rfl, size_ok hl, ?_⟩)
      have ez : cutS z lo hi = ⟨(cutD z.cps.toList lo hi).toArray⟩ := by
        unfold cutS cutD
        have hlen : z.cps.toList.length = z.length := by simp [Str.length]
        rw [hlen]
      rw [ez]
      exact q _ H (New.refl H) (.str _)
    · cases e
  · cases e
end
end AP

namespace AP
noncomputable section
open PySem PySem.Spec PyProof.Rows L2
variable [Tbls]
abbrev LeS (x y : Str) : Prop := ltCps y.cps.toList x.cps.toList = false
theorem leS_iff {x y : Str} : LeS x y ↔ x.cps.toList ≤ y.cps.toList := by
  unfold LeS
  rw [ltCps_eq, decide_eq_false_iff_not]
  exact Iff.rfl
theorem leS_trans {x y z : Str} (a : LeS x y) (b : LeS y z) : LeS x z := by
  rw [leS_iff] at *
  exact List.le_trans a b
theorem leS_total (x y : Str) : LeS x y ∨ LeS y x := by
  rw [leS_iff, leS_iff]
  exact List.le_total _ _
theorem str_ext' {x y : Str} (h : x.cps.toList = y.cps.toList) : x = y := by
  cases x with
  | mk a =>
    cases y with
    | mk b =>
      have : a = b := Array.toList_inj.mp h
      rw [this]
theorem leS_anti {x y : Str} (a : LeS x y) (b : LeS y x) : x = y := by
  rw [leS_iff] at *
  exact str_ext' (List.le_antisymm a b)
def insS (x : Str) : List Str → List Str
  | [] => [x]
  | y :: r => if ltCps y.cps.toList x.cps.toList then y :: insS x r else x :: y :: r
def sortS : List Str → List Str
  | [] => []
  | x :: r => insS x (sortS r)
theorem insS_perm (x : Str) : ∀ l : List Str, (insS x l).Perm (x :: l)
  | [] => List.Perm.refl _
  | y :: r => by
    unfold insS
    split
    · exact ((insS_perm x r).cons y).trans (List.Perm.swap x y r)
    · exact List.Perm.refl _
theorem sortS_perm : ∀ l : List Str, (sortS l).Perm l
  | [] => List.Perm.refl _
  | x :: r => (insS_perm x _).trans ((sortS_perm r).cons x)
theorem insS_pw (x : Str) : ∀ l : List Str, l.Pairwise LeS → (insS x l).Pairwise LeS
  | [], _ => by simp [insS]
  | y :: r, h => by
    unfold insS
    rw [List.pairwise_cons] at h
    split
    · rename_i hy
      rw [List.pairwise_cons]
      refine ⟨fun z hz => ?_, insS_pw x r h.2⟩
      rcases List.mem_cons.mp ((insS_perm x r).mem_iff.mp hz) with e | e
      · subst e
        rcases leS_total y z with q | q
        · exact q
        · rw [q] at hy; cases hy
      · exact h.1 z e
    · rename_i hy
      have hxy : LeS x y := by simpa using hy
      rw [List.pairwise_cons]
      refine ⟨fun z hz => ?_, List.pairwise_cons.mpr h⟩
      rcases List.mem_cons.mp hz with e | e
      · subst e; exact hxy
      · exact leS_trans hxy (h.1 z e)
theorem sortS_pw : ∀ l : List Str, (sortS l).Pairwise LeS
  | [] => List.Pairwise.nil
  | x :: r => insS_pw x _ (sortS_pw r)
theorem rising_pw : ∀ (l : List Str) (p : Str), risingS p l = true → (p :: l).Pairwise LeS
  | [], p, _ => by simp
  | x :: r, p, h => by
    simp only [risingS, Bool.and_eq_true, Bool.not_eq_true'] at h
    have h2 := rising_pw r x h.2
    rw [List.pairwise_cons]
    refine ⟨fun z hz => ?_, h2⟩
    rcases List.mem_cons.mp hz with e | e
    · subst e; exact h.1
    · exact leS_trans h.1 ((List.pairwise_cons.mp h2).1 z e)
theorem sorted_pw : ∀ (l : List Str), sortedS l = true → l.Pairwise LeS
  | [], _ => List.Pairwise.nil
  | x :: r, h => rising_pw r x h
theorem sortS_only {ys xs : List Str} (hp : ys.Perm xs) (hs : sortedS ys = true) : ys = sortS xs :=
  List.Perm.eq_of_pairwise (fun _ _ _ _ a b => leS_anti a b) (sorted_pw ys hs) (sortS_pw xs) (hp.trans (sortS_perm xs).symm)
def insI (x : Int) : List Int → List Int
  | [] => [x]
  | y :: r => if y < x then y :: insI x r else x :: y :: r
def sortI : List Int → List Int
  | [] => []
  | x :: r => insI x (sortI r)
theorem insI_perm (x : Int) : ∀ l : List Int, (insI x l).Perm (x :: l)
  | [] => List.Perm.refl _
  | y :: r => by
    unfold insI
    split
    · exact ((insI_perm x r).cons y).trans (List.Perm.swap x y r)
    · exact List.Perm.refl _
theorem sortI_perm : ∀ l : List Int, (sortI l).Perm l
  | [] => List.Perm.refl _
  | x :: r => (insI_perm x _).trans ((sortI_perm r).cons x)
theorem insI_pw (x : Int) : ∀ l : List Int, l.Pairwise (· ≤ ·) → (insI x l).Pairwise (· ≤ ·)
  | [], _ => by simp [insI]
  | y :: r, h => by
    unfold insI
    rw [List.pairwise_cons] at h
    split
    · rename_i hy
      rw [List.pairwise_cons]
      refine ⟨fun z hz => ?_, insI_pw x r h.2⟩
      rcases List.mem_cons.mp ((insI_perm x r).mem_iff.mp hz) with e | e
      · subst e; omega
      · exact h.1 z e
    · rename_i hy
      rw [List.pairwise_cons]
      refine ⟨fun z hz => ?_, List.pairwise_cons.mpr h⟩
      rcases List.mem_cons.mp hz with e | e
      · subst e; omega
      · have := h.1 z e; omega
theorem sortI_pw : ∀ l : List Int, (sortI l).Pairwise (· ≤ ·)
  | [] => List.Pairwise.nil
  | x :: r => insI_pw x _ (sortI_pw r)
theorem sortI_only {ys xs : List Int} (hp : ys.Perm xs) (hs : ys.Pairwise (· ≤ ·)) : ys = sortI xs :=
  List.Perm.eq_of_pairwise (fun _ _ _ _ a b => Int.le_antisymm a b) hs (sortI_pw xs) (hp.trans (sortI_perm xs).symm)
def strsOf : List D → Option (List Str)
  | [] => some []
  | .str x :: r => (match strsOf r with
    | some l => some (x :: l)
    | none => none)
  | _ :: _ => none
def intsOf : List D → Option (List Int)
  | [] => some []
  | .int x :: r => (match intsOf r with
    | some l => some (x :: l)
    | none => none)
  | _ :: _ => none
def boolsOf : List D → Option (List Bool)
  | [] => some []
  | .bool x :: r => (match boolsOf r with
    | some l => some (x :: l)
    | none => none)
  | _ :: _ => none
theorem strsOf_ok {Z : Zs} {H : Hp} : ∀ {us : List V} {ds : List D} {xs : List Str}, RpA Z H us ds → strsOf ds = some xs → us = xs.map V.str ∧ ds = xs.map PyData.str
  | _, _, _, .nil, e => by simp only [strsOf] at e; cases e; exact ⟨rfl, rfl⟩
  | _, _, _, .cons (d := d) (ds := ds) h r, e => by
    cases d <;> simp only [strsOf] at e <;> try cases e
    cases h
    cases e2 : strsOf ds with
    | none => rw [e2] at e; cases e
    | some l =>
      rw [e2] at e; cases e
      obtain ⟨a, b⟩ := strsOf_ok r e2
      rw [a, b]; exact ⟨rfl, rfl⟩
theorem intsOf_ok {Z : Zs} {H : Hp} : ∀ {us : List V} {ds : List D} {xs : List Int}, RpA Z H us ds → intsOf ds = some xs → us = xs.map V.int ∧ ds = xs.map PyData.int
  | _, _, _, .nil, e => by simp only [intsOf] at e; cases e; exact ⟨rfl, rfl⟩
  | _, _, _, .cons (d := d) (ds := ds) h r, e => by
    cases d <;> simp only [intsOf] at e <;> try cases e
    cases h
    cases e2 : intsOf ds with
    | none => rw [e2] at e; cases e
    | some l =>
      rw [e2] at e; cases e
      obtain ⟨a, b⟩ := intsOf_ok r e2
      rw [a, b]; exact ⟨rfl, rfl⟩
theorem boolsOf_ok {Z : Zs} {H : Hp} : ∀ {us : List V} {ds : List D} {xs : List Bool}, RpA Z H us ds → boolsOf ds = some xs → us = xs.map V.bl ∧ ds = xs.map PyData.bool
  | _, _, _, .nil, e => by simp only [boolsOf] at e; cases e; exact ⟨rfl, rfl⟩
  | _, _, _, .cons (d := d) (ds := ds) h r, e => by
    cases d <;> simp only [boolsOf] at e <;> try cases e
    cases h
    cases e2 : boolsOf ds with
    | none => rw [e2] at e; cases e
    | some l =>
      rw [e2] at e; cases e
      obtain ⟨a, b⟩ := boolsOf_ok r e2
      rw [a, b]; exact ⟨rfl, rfl⟩
theorem rpA_strs {Z : Zs} {H : Hp} : ∀ xs : List Str, RpA Z H (xs.map V.str) (xs.map PyData.str)
  | [] => .nil
  | x :: r => .cons (.str x) (rpA_strs r)
theorem rpA_ints {Z : Zs} {H : Hp} : ∀ xs : List Int, RpA Z H (xs.map V.int) (xs.map PyData.int)
  | [] => .nil
  | x :: r => .cons (.int x) (rpA_ints r)
def gLen : List D → Option D
  | [.str x] => if x.length ≤ 100000 then some (.int x.length) else none
  | [.list ds] => some (.int ds.length)
  | [.tuple ds] => some (.int ds.length)
  | [.dict ds] => some (.int ds.length)
  | _ => none
def rLenA (K : PySem.W.Frag) : List V → Hp → VK → Prop := fun xs H Q => (∃ x n, xs = [x] ∧ LenV K x H n ∧ Q (.int n) H) ∨ ∃ a kvs, xs = [V.ref a] ∧ L2.Rd H a (.dK kvs) ∧ Q (.int kvs.length) H
theorem call_lenR {X : Cx} : CallR X (.builtin "len") (fun xs H Q => ∃ a kvs, xs = [V.ref a] ∧ L2.Rd H a (.dK kvs) ∧ Q (.int kvs.length) H) := by
  intro pins s σ H xs us Q I r h
  obtain ⟨a, kvs, rfl, ha, q⟩ := h
  obtain ⟨u, rfl, ru⟩ := vals1 r
  cases ru
  exact d_len I ha fun t s' I' => ⟨.int kvs.length, H, I', ⟨t, rfl⟩, q⟩
theorem call_lenA {X : Cx} : CallR X (.builtin "len") (rLenA X.K) := call_len.or call_lenR
theorem rc_len {K : PySem.W.Frag} : RCD (rLenA K) gLen := by
  intro Z H hz vs ds d r e Q q
  unfold gLen at e
  split at e
  · rename_i x
    split at e
    · rename_i hl
      cases e
      cases r with
      | cons h t => cases t; cases h; exact .inl ⟨_, _, rfl, ⟨size_ok hl, rfl⟩, q _ H (New.refl H) (.int _)⟩
    · cases e
  · cases e
    cases r with
    | cons h t =>
      cases t
      obtain ⟨a, us, rfl, ha, ra⟩ := h
      exact .inl ⟨_, us.length, rfl, .inl ⟨us, SqL.of ha, rfl⟩, by rw [ra.length]; exact q _ H (New.refl H) (.int _)⟩
  · cases e
    cases r with
    | cons h t =>
      cases t
      obtain ⟨a, us, rfl, ha, ra, _⟩ := h
      exact .inl ⟨_, us.length, rfl, .inr ⟨us, ha.sq, rfl⟩, by rw [ra.length]; exact q _ H (New.refl H) (.int _)⟩
  · cases e
    cases r with
    | cons h t =>
      cases t
      obtain ⟨a, us, rfl, ha, ra⟩ := h
      exact .inr ⟨a, us, rfl, ha, by rw [ra.length]; exact q _ H (New.refl H) (.int _)⟩
  · cases e
def gTuple : List D → Option D
  | [.list ds] => some (.tuple ds)
  | [.tuple ds] => some (.tuple ds)
  | _ => none
theorem rc_tuple {K : PySem.W.Frag} : RCD (fun xs H Q => ∃ p ys, xs = [.ref p] ∧ ((SqL K H p ys ∧ nTup ys H Q) ∨ (SqT K H p ys ∧ Q (.ref p) H))) gTuple := by
  intro Z H hz vs ds d r e Q q
  unfold gTuple at e
  split at e
  · cases e
    cases r with
    | cons h t =>
      cases t
      obtain ⟨a, us, rfl, ha, ra⟩ := h
      refine ⟨a, us, rfl, .inl ⟨SqL.of ha, fun p ob hp ho => ?_⟩⟩
      have n := New.upd (o := .frz ob (.tup us)) hp
      exact q _ _ n (.tup (fresh_nz hz hp) (TupAt.new ho) (ra.new n))
  · cases e
    cases r with
    | cons h t =>
      cases t
      obtain ⟨a, us, rfl, ha, ra, na⟩ := h
      exact ⟨a, us, rfl, .inr ⟨ha.sq, q _ H (New.refl H) (.tup na ha ra)⟩⟩
  · cases e
def gList : List D → Option D
  | [.list ds] => some (.list ds)
  | [.tuple ds] => some (.list ds)
  | _ => none
theorem rc_list {K : PySem.W.Frag} : RCD (fun xs H Q => ∃ p ys, xs = [.ref p] ∧ (SqL K H p ys ∨ SqT K H p ys) ∧ ∀ l, H l = none → Q (.ref l) (upd H l (.lst ys))) gList := by
  intro Z H hz vs ds d r e Q q
  unfold gList at e
  split at e
  · cases e
    cases r with
    | cons h t =>
      cases t
      obtain ⟨a, us, rfl, ha, ra⟩ := h
      refine ⟨a, us, rfl, .inl (SqL.of ha), fun p hp => ?_⟩
      have n := New.upd (o := .lst us) hp
      exact q _ _ n (.lst (fresh_nz hz hp) upd_same (ra.new n))
  · cases e
    cases r with
    | cons h t =>
      cases t
      obtain ⟨a, us, rfl, ha, ra, na⟩ := h
      refine ⟨a, us, rfl, .inr (ha.sq), fun p hp => ?_⟩
      have n := New.upd (o := .lst us) hp
      exact q _ _ n (.lst (fresh_nz hz hp) upd_same (ra.new n))
  · cases e
def gAll : List D → Option D
  | [.list ds] => (match boolsOf ds with
    | some bs => some (.bool (bs.all id))
    | none => none)
  | _ => none
theorem rc_all {K : PySem.W.Frag} : RCD (rAll K) gAll := by
  intro Z H hz vs ds d r e Q q
  unfold gAll at e
  split at e
  · split at e
    · rename_i bs hb
      cases e
      cases r with
      | cons h t =>
        cases t
        obtain ⟨a, us, rfl, ha, ra⟩ := h
        obtain ⟨e1, _⟩ := boolsOf_ok ra hb
        exact ⟨a, bs, rfl, SqL.of (by rw [← e1]; exact ha), q _ H (New.refl H) (.bl _)⟩
    · cases e
  · cases e
def gInt : List D → Option D
  | [.int i] => some (.int i)
  | [.bool k] => some (.int (if k then 1 else 0))
  | _ => none
theorem rc_int : RCD (fun xs H Q => (∃ i, xs = [.int i] ∧ Q (.int i) H) ∨ ∃ k, xs = [.bl k] ∧ Q (.int (if k then 1 else 0)) H) gInt := by
  intro Z H hz vs ds d r e Q q
  unfold gInt at e
  split at e
  · cases e
    cases r with
    | cons h t => cases t; cases h; exact .inl ⟨_, rfl, q _ H (New.refl H) (.int _)⟩
  · cases e
    cases r with
    | cons h t => cases t; cases h; exact .inr ⟨_, rfl, q _ H (New.refl H) (.int _)⟩
  · cases e
def gSorted : List D → Option D
  | [.list ds] => (match strsOf ds with
    | some xs => if xs.length < 64 then some (.list ((sortS xs).map PyData.str)) else none
    | none => (match intsOf ds with
      | some xs => if xs.length < 64 then some (.list ((sortI xs).map PyData.int)) else none
      | none => none))
  | _ => none
def rSortA (K : PySem.W.Frag) : List V → Hp → VK → Prop := fun xs H Q => rSortedS K xs H Q ∨ rSorted K xs H Q
theorem cr_sortA {X : Cx} : CallR X (.builtin "sorted") (rSortA X.K) := cr_sortedS.or cr_sorted
theorem rc_sorted {K : PySem.W.Frag} : RCD (rSortA K) gSorted := by
  intro Z H hz vs ds d r e Q q
  unfold gSorted at e
  split at e
  · cases r with
    | cons h t =>
      cases t
      obtain ⟨a, us, rfl, ha, ra⟩ := h
      split at e
      · rename_i xs hs
        split at e
        · rename_i hl
          cases e
          obtain ⟨e1, _⟩ := strsOf_ok ra hs
          refine .inl ⟨a, xs, rfl, SqL.of (by rw [← e1]; exact ha), hl, fun ys p hp hy hn => ?_⟩
          have ey := sortS_only hp hy
          subst ey
          exact q _ _ (New.upd hn) (.lst (fresh_nz hz hn) upd_same (rpA_strs _))
        · cases e
      · split at e
        · rename_i xs hs
          split at e
          · rename_i hl
            cases e
            obtain ⟨e1, _⟩ := intsOf_ok ra hs
            refine .inr ⟨a, xs, rfl, SqL.of (by rw [← e1]; exact ha), hl, fun ys p hp hy hn => ?_⟩
            have ey := sortI_only hp hy
            subst ey
            exact q _ _ (New.upd hn) (.lst (fresh_nz hz hn) upd_same (rpA_ints _))
          · cases e
        · cases e
  · cases e
def tyOf : D → String
  | .none => "NoneType"
  | .bool _ => "bool"
  | .int _ => "int"
  | .str _ => "str"
  | .list _ => "list"
  | .tuple _ => "tuple"
  | .dict _ => "dict"
theorem ty_rt {K : PySem.W.Frag} {Z : Zs} {H : Hp} {v : V} {d : D} (h : Rt Z H v d) : TyX K H v (.type (tyOf d)) := by
  cases d with
  | none => cases h; exact .base .non
  | bool b => cases h; exact .base (.bl b)
  | int i => cases h; exact .base (.int i)
  | str x => cases h; exact .base (.str x)
  | list ds => obtain ⟨a, xs, rfl, q, r⟩ := h; exact .base (.lst q)
  | tuple ds => obtain ⟨a, xs, rfl, q, r, _⟩ := h; exact q.ty
  | dict ps => obtain ⟨a, xs, rfl, q, r⟩ := h; exact q.elim (fun q => .base (.dK q)) fun ⟨_, q⟩ => .fDict q
inductive Ty where
  | int | bool | str | tuple | list | dict
def Ty.nm : Ty → String
  | .int => "int"
  | .bool => "bool"
  | .str => "str"
  | .tuple => "tuple"
  | .list => "list"
  | .dict => "dict"
def isiB : Ty → D → Bool
  | .int, .int _ => true
  | .int, .bool _ => true
  | .bool, .bool _ => true
  | .str, .str _ => true
  | .tuple, .tuple _ => true
  | .list, .list _ => true
  | .dict, .dict _ => true
  | _, _ => false
theorem isi_kit (T : Ty) (d : D) : kitB (tyOf d) T.nm = some (isiB T d) := by
  cases T <;> cases d <;> (simp only [tyOf, Ty.nm, isiB]; decide +kernel)
def mIsi (T : Ty) (a : EM) : EM := fun s => match a s with
  | none => none
  | some (x, o1) => match vw o1 x with
    | none => none
    | some d => some (.d (.bool (isiB T d)), o1)
theorem sn_isi {K : PySem.W.Frag} {T : Ty} {ta : TE} {a : EM} (ha : Sn ta a) : Sn (tCB (rIsi K) (tCons ta (tCons (tC (.ty T.nm)) tNil))) (mIsi T a) := by
  intro Z M s σ H h w o' e Q q
  unfold mIsi at e
  split at e
  · cases e
  · rename_i x o1 ea
    refine ha Z M s σ H h x o1 ea _ fun M1 v1 H1 e1 h1 r1 => ?_
    split at e
    · cases e
    · rename_i d hd
      cases e
      exact ⟨v1, .ty T.nm, _, .type T.nm, _, rfl, .ty T.nm, ty_rt (vw_ok h1.r r1 hd), kit_ty (isi_kit T d), q M1 _ H1 e1 h1 (.bl _)⟩
end
end AP

namespace AP
noncomputable section
open PySem PySem.Spec PyProof.Rows L2
variable [Tbls]
class Gd where
  b : Bool
abbrev gT : Gd := ⟨true⟩
def GOk [Gd] (A : Around) : Prop := Gd.b = true → A.guards = some []
variable [Gd]
structure FnG (P : Program) (w : World) (K : PySem.W.Frag) (mg : Str → Option Value) (base : Heap) (CX : CXT) (k : Nat) (f : Addr) (fd : FuncData) (ps : List Str) (sp : Sp) : Prop where
  many : ∀ vs H Q E, sp vs H Q E → vs.length = ps.length
  goes : ∀ (A : Around) (outer : List Env) (s : Shared) (H : Hp) (args : Args) (us : List Value) (vs : List V) (Q : VK) (E : XK), GOk A → Room k A → Env0 P w K mg base A outer s H →
    BindsTo s fd args (ps.zip us) → Vals vs us → sp vs H Q E → codeAny (model P w) A (.call (.ref f) args) (CR CX outer P w H s Q E) s
section
variable {P : Program} {w : World} {K : PySem.W.Frag} {mg : Str → Option Value} {base : Heap} {x qual : Str} {params : Arguments} {body : List Stmt} {scope : Scope} {dvs : List V} {kws : List (Str × V)} {f : Addr} {fd : FuncData}
theorem FnG.mono {CX : CXT} {j k : Nat} {ps : List Str} {sp : Sp} (F : FnG P w K mg base CX j f fd ps sp) (h : j ≤ k) : FnG P w K mg base CX k f fd ps sp :=
  ⟨F.many, fun A outer s H args us vs Q E g hr => F.goes A outer s H args us vs Q E g (hr.mono h)⟩
theorem fnG_ok {CX : CXT} {N ps : List Str} {k : Nat} {sp : Sp} (F : FunD K x qual params body scope dvs kws f fd) (sc : FnScope N ps scope) (many : ∀ vs H Q E, sp vs H Q E → vs.length = ps.length)
    (reading : ∀ (cdv : Value), fd.code = cdv → ∀ (A : Around) (outer : List Env) (s : Shared) (H : Hp) (vs : List V) (Q : VK) (E : XK), GOk A → Room k (A.deeper (envOfC qual scope s.heap.objs.size f cdv)) → sp vs H Q E →
      ∃ t, PSs (cxOf CX P w K mg base N qual scope f cdv A outer s H E) body t ∧ t { nx := fun _ G => Q .non G, rt := Q } (start N vs) H) :
    FnG P w K mg base CX (k + 1) f fd ps sp := by
  obtain ⟨oc, od, dV, kV, doc, pm, an, cdv, ct, osl, e, lk, hcd, _, _⟩ := F.ex
  subst e
  constructor
  · exact many
  intro A outer s H args us vs Q E hg room e0 binds vals wish
  have stays : ∀ b o, base.get? b = some o → s.heap.get? b = some o := fun b o q => (e0.bs b o q).1
  have inK : K.In s.heap := e0.mod.kin.keeps stays
  have nol : s.heap.NoLimit := e0.mod.nolimit.keeps stays
  have kinds : ∀ y ∈ ps.zip us, scope.names.lookup y.1 = some .local ∨
      (scope.names.lookup y.1 = some .cell ∧ ((cellsFrom (s.heap.objs.size + 1) scope.names []).lookup y.1).isSome = true) := by
    rintro ⟨n, v⟩ hy
    cases sc.par n (List.of_mem_zip hy).1 with
    | inl q => exact .inl q
    | inr q => exact .inr ⟨q, PySem.W.cellsFrom_some _ _ _ (.inl q)⟩
  apply codeAny_call_function room.depth (inK _ _ lk) rfl sc.co sc.gen rfl (PySem.W.codeRec_of inK hcd)
  apply binds
  apply wpAny_newFunctionEnv_cells sc.kind kinds
  intro env he s1 inside
  subst he
  constructor
  · exact nol.keeps inside.toInCall.keep
  apply codeAny_func
  obtain ⟨t, ht, hq⟩ := reading cdv rfl A outer s H vs Q E hg (room.deeper _) wish
  have J := inv_start (CX := CX) (E := E) sc room.hd e0 (many _ _ _ _ wish) vals inside
  refine wpAny_mono (ht.run [] s1 (start N vs) H _ J hq) ?_ (fun _ _ z => z)
  intro fl s2 hs
  cases fl with
  | next =>
    obtain ⟨σ2, H2, I2, q2⟩ := hs
    exact ⟨.non, H2, I2.os, I2.bare, I2.base, I2.hok, rfl, q2⟩
  | ret u =>
    obtain ⟨v2, σ2, H2, I2, rv2, q2⟩ := hs
    exact ⟨v2, H2, I2.os, I2.bare, I2.base, I2.hok, rv2, q2⟩
  | brk =>
    obtain ⟨_, _, _, z⟩ := hs
    exact (show False from z).elim
  | cont =>
    obtain ⟨_, _, _, z⟩ := hs
    exact (show False from z).elim
end
section
variable {X : Cx} {CX : CXT} {k : Nat} {f : Addr} {fd : FuncData} {ps ks : List Str} {sp : Sp} {dvs : List V} {ds : List Value} {E : XK} {x : Str} {p pos : Pos} {e : Expr} {es : List Expr} {kws : List Keyword} {t tk : TA}
theorem after_call {pins : List (Addr × Obj)} {σ : L2.St} {H : Hp} {s s' : Shared} {Q : VK} (hx : Passes CX X E) (I : Inv X pins σ H s) {r : Result} (h : CR CX X.stack X.prog X.w H s Q E r s') :
    match r with
    | .ok (.ret u) => EP X pins σ Q u s'
    | .ok _ => False
    | .error e => X.xe e s' := by
  cases r with
  | error e => exact hx pins σ H s e s' I h
  | ok fl => cases fl with
    | ret u => exact I.after h
    | next => exact h
    | brk => exact h
    | cont => exact h
theorem runG {pins : List (Addr × Obj)} {σ : L2.St} {H : Hp} {s : Shared} {Q : VK} {us : List Value} {kw : List (Str × Value)} {vs : List V} {args : List Value} (F : FnG X.prog X.w X.K X.mg X.base CX k f fd ps sp) (hg : GOk X.A) (hr : Room k X.A)
    (hx : Passes CX X E) (I : Inv X pins σ H s) (r : Vals vs args) (hb : BindsTo s fd ⟨us, kw⟩ (ps.zip args)) (h : sp vs H Q E) : wpAny (model X.prog X.w) X.A (call (.ref f) us kw) (EP X pins σ Q) X.xe s := by
  refine wpAny_call (codeAny_mono (F.goes X.A X.stack s H ⟨us, kw⟩ args vs Q E hg hr I.env0 hb r h) ?_)
  intro r s' hq
  have q := after_call hx I hq
  cases r with
  | error e => exact q
  | ok fl => cases fl with
    | ret u => exact q
    | next => exact q.elim
    | brk => exact q.elim
    | cont => exact q.elim
theorem pe_callG (F : FnG X.prog X.w X.K X.mg X.base CX k f fd ps sp) (hg : GOk X.A) (hr : Room k X.A) (hgl : Gl X x) (hm : X.mg x = some (.ref f)) (hk : PySem.W.keepIn X.K (.ref f) = true) (hb : Binds X.K fd ps ds) (hd : Vals dvs ds) (hx : Passes CX X E)
    (ha : PA X (e :: es) t) (hdb : (x == ("__debug__" : Str)) = false := by decide) (he : starEach (e :: es) X.env = (false, eval e X.env) :: starEach es X.env := by rfl)
    (hpl : (backTo pos (starEach es X.env)).any (·.1) = false := by rfl) : PE X (.Call (.Name x p) (e :: es) [] pos) (tCall sp dvs E t) := by
  constructor
  intro pins s σ H Q I h
  refine wpAny_Call_Name_kw (ld_glob I hgl hm ?_ hdb)
  refine PySem.W.callWith_K (h₀ := X.base) I.ok.mod.kin hk (thn (ha.run pos pins s σ H _ I h) ?_) he hpl
  rintro us s1 ⟨vs, H1, I1, r, q⟩
  refine ⟨I1.kIn, runG F hg hr hx I1 (r.append hd) (hb s1 us I1.kIn ?_) q⟩
  rw [← (r.append hd).length]
  exact F.many _ _ _ _ q
def perm {α : Type} (ix : List Nat) (l : List α) : List α := ix.filterMap fun i => l[i]?
theorem perm_vals {zs : List V} {ws : List Value} (r : Vals zs ws) : ∀ ix : List Nat, Vals (perm ix zs) (perm ix ws)
  | [] => .nil
  | i :: ix => by
    unfold perm
    rw [List.filterMap_cons, List.filterMap_cons]
    cases h : zs[i]? with
    | none => rw [r.none_of h]; exact perm_vals r ix
    | some x =>
      obtain ⟨u, h1, h2⟩ := r.get h
      rw [h1]
      exact .cons h2 (perm_vals r ix)
def tCallP (sp : Sp) (ix : List Nat) (E : XK) (tk : TA) : TE := fun σ H Q => tk σ H fun zs H1 => sp (perm ix zs) H1 Q E
theorem pe_callGk {ix : List Nat} (F : FnG X.prog X.w X.K X.mg X.base CX k f fd ps sp) (hg : GOk X.A) (hr : Room k X.A) (hgl : Gl X x) (hm : X.mg x = some (.ref f)) (hk : PySem.W.keepIn X.K (.ref f) = true)
    (hb : ∀ (s : Shared) (ws : List Value), (perm ix ws).length = ps.length → BindsTo s fd ⟨[], ks.zip ws⟩ (ps.zip (perm ix ws))) (hx : Passes CX X E) (hkw : PK X kws tk)
    (hall : (backToKw pos (keywordEach kws X.env)).all (·.1.isSome) = true := by rfl) (hks : (backToKw pos (keywordEach kws X.env)).filterMap (·.1) = ks := by rfl) (hdb : (x == ("__debug__" : Str)) = false := by decide)
    (hpl : ((backTo pos (starEach [] X.env)).any (·.1) || (backToKw pos (keywordEach kws X.env)).any (·.1.isNone)) = false := by rfl) : PE X (.Call (.Name x p) [] kws pos) (tCallP sp ix E tk) := by
  constructor
  intro pins s σ H Q I h
  refine wpAny_Call_Name_kw (ld_glob I hgl hm ?_ hdb)
  refine PySem.W.callWith_KW0 (h₀ := X.base) I.ok.mod.kin hk hall (thn (hkw.run pos pins s σ H _ I h) ?_) hpl
  rintro ws s1 ⟨zs, H1, I1, r, q⟩
  rw [hks]
  have r2 := perm_vals r ix
  exact ⟨I1.kIn, runG F hg hr hx I1 r2 (hb s1 ws (by rw [← r2.length]; exact F.many _ _ _ _ q)) q⟩
end
def rRepr (K : PySem.W.Frag) : List V → Hp → VK → Prop := fun xs H Q => ∃ x d, xs = [x] ∧ Dp K H x d ∧ PyData.showable d = true ∧ d.hasDict = false ∧ d.shown.length ≤ sizeLine ∧ d.depth ≤ 60 ∧ Q (.str d.shown) H
theorem call_repr {X : Cx} (hg : X.A.guards = some []) (hu : X.A.units + 64 < cLine) : CallR X (.builtin "repr") (rRepr X.K) := by
  intro pins s σ H xs us Q I r h
  obtain ⟨x, d, rfl, hd, h1, h2, h3, h4, q⟩ := h
  obtain ⟨u, rfl, rx⟩ := vals1 r
  obtain ⟨as, rd⟩ := Dp.reads I d x u hd rx
  have fin : ∀ t, EP X pins σ Q (.str d.shown t) { s with toks := s.toks + 1 } := fun t => ⟨.str d.shown, H, I.tok _, ⟨_, rfl⟩, q⟩
  cases hd with
  | non => cases rx; exact PySem.P.repr_of_none (fin _)
  | bl b =>
    cases rx
    have e : PyData.shown (.bool b) = (if b then Str.ofString "True" else Str.ofString "False") := by
      cases b <;> simp only [PyData.shown] <;> rfl
    rw [e] at fin
    exact PySem.P.repr_of_bool (fin _)
  | int i =>
    obtain ⟨t, rfl⟩ := rx
    have e : PyData.shown (.int i) = toString i := by simp only [PyData.shown]
    rw [e] at fin
    exact PySem.P.repr_of_int (by simpa [PyData.showable] using h1) (fin _)
  | str y =>
    obtain ⟨t, rfl⟩ := rx
    have e : PyData.shown (.str y) = reprText y := by simp only [PyData.shown]
    rw [e] at fin h3
    exact PySem.P.repr_of_str (fin _) h3
  | lst hs ha =>
    cases rx
    exact repr_of_reads' rd h1 (fun z => by rw [h2] at z; cases z) hg (by omega) (fun _ _ e => e) (fun h' u tk hk => ⟨.str _, H, I.kept hk, ⟨_, rfl⟩, q⟩) h3
  | tup hs ha =>
    cases rx
    exact repr_of_reads' rd h1 (fun z => by rw [h2] at z; cases z) hg (by omega) (fun _ _ e => e) (fun h' u tk hk => ⟨.str _, H, I.kept hk, ⟨_, rfl⟩, q⟩) h3
end
end AP

namespace AP
noncomputable section
open PySem PySem.Spec PyProof.Rows L2
variable [Tbls] [Gd]
inductive Out where
  | nx (s : S) | rt (v : SV) (o : List MO) | bk (s : S) | ct (s : S)
abbrev SM := S → Option Out
def Fin (Z : Zs) (M : List Addr) (H : Hp) (E : Ends) : Out → Prop
  | .nx s' => ∀ M' σ' H', Ext M H M' H' → Rel Z M' s' σ' H' → E.nx σ' H'
  | .rt r o' => ∀ M' v H', Ext M H M' H' → Rob Z M' o' H' → Rv Z M' H' v r → E.rt v H'
  | .bk s' => ∀ M' σ' H', Ext M H M' H' → Rel Z M' s' σ' H' → E.bk σ' H'
  | .ct s' => ∀ M' σ' H', Ext M H M' H' → Rel Z M' s' σ' H' → E.ct σ' H'
def SnS (t : TS) (m : SM) : Prop := ∀ Z M s σ H, Rel Z M s σ H → ∀ out, m s = some out → ∀ E : Ends, Fin Z M H E out → t E σ H
theorem Fin.ext {Z : Zs} {M M' : List Addr} {H H' : Hp} {E : Ends} {out : Out} (e : Ext M H M' H') (f : Fin Z M H E out) : Fin Z M' H' E out := by
  cases out with
  | nx s => exact fun M2 σ2 H2 e2 r => f M2 σ2 H2 (e.trans e2) r
  | bk s => exact fun M2 σ2 H2 e2 r => f M2 σ2 H2 (e.trans e2) r
  | ct s => exact fun M2 σ2 H2 e2 r => f M2 σ2 H2 (e.trans e2) r
  | rt r o => exact fun M2 v2 H2 e2 a b => f M2 v2 H2 (e.trans e2) a b
def mNext : SM := fun s => some (.nx s)
theorem ss_next : SnS tNext mNext := by
  intro Z M s σ H h out e E f
  cases e
  exact f M σ H (Ext.refl M H) h
def mSeq (a b : SM) : SM := fun s => match a s with
  | some (.nx s') => b s'
  | r => r
theorem ss_seq {t u : TS} {a b : SM} (ha : SnS t a) (hb : SnS u b) : SnS (tSeq t u) (mSeq a b) := by
  intro Z M s σ H h out e E f
  unfold mSeq at e
  split at e
  · rename_i s' es
    refine ha Z M s σ H h _ es _ fun M' σ' H' e' h' => ?_
    exact hb Z M' s' σ' H' h' out e E (f.ext e')
  · rename_i r hr
    refine ha Z M s σ H h out e _ ?_
    cases out with
    | nx s' => exact absurd e (hr s')
    | bk s' => exact f
    | ct s' => exact f
    | rt r o => exact f
def mNever : SM := fun _ => none
theorem ss_never {t : TS} : SnS t mNever := by
  intro Z M s σ H h out e
  cases e
def mDrop (a : EM) : SM := fun s => match a s with
  | none => none
  | some (_, o1) => some (.nx (s.on o1))
theorem ss_drop {te : TE} {a : EM} (ha : Sn te a) : SnS (tDrop te) (mDrop a) := by
  intro Z M s σ H h out e E f
  unfold mDrop at e
  split at e
  · cases e
  · rename_i x o1 ea
    cases e
    exact ha Z M s σ H h _ _ ea _ fun M1 v1 H1 ⟨e1, _⟩ h1 _ => f M1 σ H1 e1 h1
def mRet (a : EM) : SM := fun s => match a s with
  | none => none
  | some (x, o1) => some (.rt x o1)
theorem ss_ret {te : TE} {a : EM} (ha : Sn te a) : SnS (tRet te) (mRet a) := by
  intro Z M s σ H h out e E f
  unfold mRet at e
  split at e
  · cases e
  · rename_i x o1 ea
    cases e
    exact ha Z M s σ H h _ _ ea _ fun M1 v1 H1 ⟨e1, _⟩ h1 r1 => f M1 v1 H1 e1 h1.r r1
def mRetN : SM := fun s => some (.rt (.d .none) s.o)
def mIfS (c : TM) (a b : SM) : SM := fun s => match c s with
  | none => none
  | some (true, o1) => a (s.on o1)
  | some (false, o1) => b (s.on o1)
theorem ss_if {tc : TT} {t u : TS} {c : TM} {a b : SM} (hc : SnT tc c) (ha : SnS t a) (hb : SnS u b) : SnS (tIfS tc t u) (mIfS c a b) := by
  intro Z M s σ H h out e E f
  unfold mIfS at e
  split at e
  · cases e
  · rename_i o1 ec
    refine hc Z M s σ H h _ _ ec _ fun M1 H1 ⟨e1, _⟩ h1 => ?_
    rw [if_pos rfl]
    exact ha Z M1 (s.on o1) σ H1 h1 out e E (f.ext e1)
  · rename_i o1 ec
    refine hc Z M s σ H h _ _ ec _ fun M1 H1 ⟨e1, _⟩ h1 => ?_
    rw [if_neg (by decide)]
    exact hb Z M1 (s.on o1) σ H1 h1 out e E (f.ext e1)
abbrev GM := SV → S → Option S
def SnG (g : TG) (m : GM) : Prop := ∀ Z M s σ H, Rel Z M s σ H → ∀ v sv, Rv Z M H v sv → ∀ s', m sv s = some s' → ∀ Q : L2.St → Hp → Prop, (∀ M' σ' H', Ex2 M H M' H' → Rel Z M' s' σ' H' → Q σ' H') → g v σ H Q
def mgName (i : Nat) : GM := fun v s => some { s with σ := sS (some v) s.σ i }
theorem sg_name {i : Nat} : SnG (gName i) (mgName i) := by
  intro Z M s σ H h v sv r s' e Q q
  cases e
  exact q M _ H (Ex2.refl M H) (h.put r)
abbrev GMs := List D → S → Option S
def SnGs (g : TGs) (m : GMs) : Prop := ∀ Z M s σ H, Rel Z M s σ H → ∀ vs ds, RpA (zz Z M) H vs ds → ∀ s', m ds s = some s' → ∀ Q : L2.St → Hp → Prop, (∀ M' σ' H', Ex2 M H M' H' → Rel Z M' s' σ' H' → Q σ' H') → g vs σ H Q
def mgNil : GMs := fun ds s => match ds with
  | [] => some s
  | _ => none
def mgCons (a : GM) (b : GMs) : GMs := fun ds s => match ds with
  | [] => none
  | d :: r => match a (.d d) s with
    | none => none
    | some s' => b r s'
theorem sgs_nil : SnGs gNil mgNil := by
  intro Z M s σ H h vs ds r s' e Q q
  unfold mgNil at e
  split at e
  · cases e
    cases r
    exact ⟨rfl, q M σ H (Ex2.refl M H) h⟩
  · cases e
theorem sgs_cons {t : TG} {u : TGs} {a : GM} {b : GMs} (ha : SnG t a) (hb : SnGs u b) : SnGs (gCons t u) (mgCons a b) := by
  intro Z M s σ H h vs ds r s' e Q q
  unfold mgCons at e
  split at e
  · cases e
  · rename_i d rest
    cases r with
    | cons hv hr =>
      split at e
      · cases e
      · rename_i s1 es
        refine ⟨_, _, rfl, ha Z M s σ H h _ (.d d) hv s1 es _ fun M1 σ1 H1 e1 h1 => ?_⟩
        exact hb Z M1 s1 σ1 H1 h1 _ rest (e1.mono_a hr) s' e Q fun M2 σ2 H2 e2 h2 => q M2 σ2 H2 (e1.trans e2) h2
def mgTup (n : Nat) (a : GMs) : GM := fun v s => match v with
  | .d (.tuple ds) => if ds.length = n then a ds s else none
  | _ => none
theorem sg_tup {K : PySem.W.Frag} {n : Nat} {t : TGs} {a : GMs} (ha : SnGs t a) : SnG (gTup K n t) (mgTup n a) := by
  intro Z M s σ H h v sv r s' e Q q
  unfold mgTup at e
  split at e
  · rename_i ds
    split at e
    · rename_i hl
      have r2 : Rp (zz Z M) H v (.tuple ds) := r
      cases r2 with
      | tup z ha2 ra => exact ⟨_, _, rfl, ha2.sq, by rw [ra.length]; exact hl, ha Z M s σ H h _ ds ra s' e Q q⟩
    · cases e
  · cases e
def mAsg (a : EM) (g : GM) : SM := fun s => match a s with
  | none => none
  | some (x, o1) => match g x (s.on o1) with
    | none => none
    | some s' => some (.nx s')
theorem ss_asg {te : TE} {tg : TG} {a : EM} {g : GM} (ha : Sn te a) (hg : SnG tg g) : SnS (tAsg te tg) (mAsg a g) := by
  intro Z M s σ H h out e E f
  unfold mAsg at e
  split at e
  · cases e
  · rename_i x o1 ea
    refine ha Z M s σ H h _ _ ea _ fun M1 v1 H1 ⟨e1, _⟩ h1 r1 => ?_
    split at e
    · cases e
    · rename_i s' es
      cases e
      exact hg Z M1 (s.on o1) σ H1 h1 v1 x r1 s' es _ fun M2 σ2 H2 e2 h2 => f M2 σ2 H2 (e1.trans e2.toExt) h2
def mPar (i j : Nat) (a : AM) : SM := fun s => match a s with
  | some ([x, y], o1) => some (.nx { (s.on o1) with σ := sS (some y) (sS (some x) s.σ i) j })
  | _ => none
theorem ss_par {i j : Nat} {ta : TA} {a : AM} (ha : SnA ta a) : SnS (tPar i j ta) (mPar i j a) := by
  intro Z M s σ H h out e E f
  unfold mPar at e
  split at e
  · rename_i x y o1 ea
    cases e
    refine ha Z M s σ H h _ _ ea _ fun M1 vs H1 ⟨e1, _⟩ h1 r1 => ?_
    cases r1 with
    | cons hx t =>
      cases t with
      | cons hy t2 =>
        cases t2
        exact ⟨_, _, rfl, f M1 _ H1 e1 ((h1.put hx).put hy)⟩
  · cases e
def RoC (Z : Zs) (M : List Addr) (H : Hp) (ob : HO) : MO → Prop
  | .l ds => ∃ xs, ob = .lst xs ∧ RpA (zz Z M) H xs ds
  | .k ps => ∃ kvs, ob = .dK kvs ∧ RpK (zz Z M) H kvs (kvD ps)
  | .r ks => ∃ xs, ob = .lst xs ∧ RnA M xs ks
  | .g ps => ∃ kvs, ob = .dK kvs ∧ RnK M kvs ps
theorem RoC.ro {Z : Zs} {M : List Addr} {H : Hp} {ob : HO} {r : MO} {a : Addr} (h : RoC Z M H ob r) (e : H a = some ob) : Ro Z M H a r := by
  cases r with
  | l ds => obtain ⟨xs, rfl, q⟩ := h; exact ⟨xs, e, q⟩
  | k ps => obtain ⟨xs, rfl, q⟩ := h; exact ⟨xs, e, q⟩
  | r ks => obtain ⟨xs, rfl, q⟩ := h; exact ⟨xs, e, q⟩
  | g ps => obtain ⟨xs, rfl, q⟩ := h; exact ⟨xs, e, q⟩
theorem RoC.ext {Z : Zs} {M M' : List Addr} {H H' : Hp} {ob : HO} {r : MO} (h : RoC Z M H ob r) (e : Ext M H M' H') : RoC Z M' H' ob r := by
  cases r with
  | l ds => obtain ⟨xs, rfl, q⟩ := h; exact ⟨xs, rfl, e.mono_a q⟩
  | k ps => obtain ⟨xs, rfl, q⟩ := h; exact ⟨xs, rfl, e.mono_k q⟩
  | r ks => obtain ⟨xs, rfl, q⟩ := h; obtain ⟨y, hy⟩ := e.pre; exact ⟨xs, rfl, q.pre hy⟩
  | g ps => obtain ⟨xs, rfl, q⟩ := h; obtain ⟨y, hy⟩ := e.pre; exact ⟨xs, rfl, q.pre hy⟩
theorem Ro.ext {Z : Zs} {M M' : List Addr} {H H' : Hp} {a : Addr} {r : MO} (h : Ro Z M H a r) (e : Ext M H M' H') (ha : ∀ o, H a = some o → nt o → H' a = some o) : Ro Z M' H' a r := by
  cases r with
  | l ds => obtain ⟨xs, q1, q⟩ := h; exact ⟨xs, ha _ q1 nt_lst, e.mono_a q⟩
  | k ps => obtain ⟨xs, q1, q⟩ := h; exact ⟨xs, ha _ q1 nt_dK, e.mono_k q⟩
  | r ks => obtain ⟨xs, q1, q⟩ := h; obtain ⟨y, hy⟩ := e.pre; exact ⟨xs, ha _ q1 nt_lst, q.pre hy⟩
  | g ps => obtain ⟨xs, q1, q⟩ := h; obtain ⟨y, hy⟩ := e.pre; exact ⟨xs, ha _ q1 nt_dK, q.pre hy⟩
theorem own_new {Z : Zs} {M : List Addr} {s : S} {σ : L2.St} {H : Hp} {p : Addr} {ob : HO} {r : MO} (h : Rel Z M s σ H) (hp : H p = none) (hr : RoC Z M H ob r) :
    Rel Z (M ++ [p]) { s with o := s.o ++ [r] } σ (upd H p ob) ∧ Ext M H (M ++ [p]) (upd H p ob) := by
  have n := New.upd (o := ob) hp
  have npM : p ∉ M := fun hm => h.r.zzd p (.inr hm) hp
  have npZ : ¬ Z p := fun hm => (h.r.zs p hm).ne hp
  have ex : Ext M H (M ++ [p]) (upd H p ob) := ⟨⟨[p], rfl⟩, fun a h1 h2 => by
    simp only [List.mem_append, List.mem_singleton, not_or]
    exact ⟨h1, fun e => h2.ne (by rw [e]; exact hp)⟩, fun a o _ h2 t => n.at_ a o h2 t, n.dom, n.tab⟩
  refine ⟨⟨⟨?_, fun a ha => ex.dom a (h.r.zs a ha), ?_, by simp [h.r.len], fun k a x h1 h2 => ?_, ex.tab h.r.tb⟩, fun i sv q => ?_, h.sn⟩, ex⟩
  · rw [List.nodup_append]
    refine ⟨h.r.nd, by simp, fun a ha b hb => ?_⟩
    simp only [List.mem_singleton] at hb
    subst hb
    exact fun e => npM (e ▸ ha)
  · intro a ha
    rcases List.mem_append.mp ha with q | q
    · exact h.r.nz a q
    · simp only [List.mem_singleton] at q; subst q; exact npZ
  · by_cases hk : k < M.length
    · rw [List.getElem?_append_left hk] at h1
      rw [List.getElem?_append_left (by rw [h.r.len]; exact hk)] at h2
      exact (h.r.ob k a x h1 h2).ext ex fun o q t => n.at_ a o q t
    · have e1 : k = M.length := by
        have := (List.getElem?_eq_some_iff.mp h1).1
        simp at this
        omega
      subst e1
      rw [List.getElem?_append_right (Nat.le_refl _)] at h1
      rw [List.getElem?_append_right (by rw [h.r.len]; exact Nat.le_refl _), h.r.len] at h2
      simp at h1 h2
      subst h1; subst h2
      exact (hr.ext ex).ro upd_same
  · obtain ⟨v, q1, q2⟩ := h.sl i sv q
    exact ⟨v, q1, ex.rv q2⟩
theorem nodup_get {α : Type} {l : List α} (h : l.Nodup) {i j : Nat} {x : α} (a : l[i]? = some x) (b : l[j]? = some x) : i = j := by
  obtain ⟨h1, e1⟩ := List.getElem?_eq_some_iff.mp a
  obtain ⟨h2, e2⟩ := List.getElem?_eq_some_iff.mp b
  exact (List.getElem_inj h).mp (e1.trans e2.symm)
theorem own_mut {Z : Zs} {M : List Addr} {s : S} {σ : L2.St} {H : Hp} {k : Nat} {a : Addr} {ob : HO} {r : MO} (h : Rel Z M s σ H) (hk : M[k]? = some a) (hr : RoC Z M H ob r) :
    Rel Z M { s with o := s.o.set k r } σ (upd H a ob) ∧ Ext M H M (upd H a ob) := by
  have ha : a ∈ M := List.mem_of_getElem? hk
  have kl : k < s.o.length := by rw [h.r.len]; exact (List.getElem?_eq_some_iff.mp hk).1
  have old : ∃ o, H a = some o ∧ nt o ∧ ∀ φ, o ≠ .ext φ := by
    have q := h.r.ob k a _ hk (List.getElem?_eq_getElem kl)
    cases e2 : s.o[k] with
    | l ds => rw [e2] at q; obtain ⟨xs, q, _⟩ := q; exact ⟨_, q, nt_lst, fun _ z => nomatch z⟩
    | k ps => rw [e2] at q; obtain ⟨xs, q, _⟩ := q; exact ⟨_, q, nt_dK, fun _ z => nomatch z⟩
    | r ks => rw [e2] at q; obtain ⟨xs, q, _⟩ := q; exact ⟨_, q, nt_lst, fun _ z => nomatch z⟩
    | g ps => rw [e2] at q; obtain ⟨xs, q, _⟩ := q; exact ⟨_, q, nt_dK, fun _ z => nomatch z⟩
  obtain ⟨o0, q0, q1, q2⟩ := old
  have ex : Ext M H M (upd H a ob) := ⟨⟨[], by simp⟩, fun b h1 _ => h1, fun b o h1 h2 _ => by
    have nb : b ≠ a := fun e => by subst e; exact h1 ha
    rw [upd_ne nb]; exact h2, fun b hb => by
    by_cases e : b = a
    · subst e
      refine ⟨ob, upd_same, ?_⟩
      cases r with
      | l ds => obtain ⟨xs, z, _⟩ := hr; rw [z]; exact nt_lst
      | k ps => obtain ⟨xs, z, _⟩ := hr; rw [z]; exact nt_dK
      | r ks => obtain ⟨xs, z, _⟩ := hr; rw [z]; exact nt_lst
      | g ps => obtain ⟨xs, z, _⟩ := hr; rw [z]; exact nt_dK
    · obtain ⟨o, e1, e2⟩ := hb
      exact ⟨o, by rw [upd_ne e]; exact e1, e2⟩, fun t p hp => tab_upd q0 q1 q2 (t p hp)⟩
  refine ⟨⟨⟨h.r.nd, fun b hb => ex.dom b (h.r.zs b hb), h.r.nz, by simp [h.r.len], fun j b x h1 h2 => ?_, ex.tab h.r.tb⟩, fun i sv q => ?_, h.sn⟩, ex⟩
  · by_cases hj : j = k
    · subst hj
      rw [hk] at h1
      cases h1
      have hl : j < s.o.length := by rw [h.r.len]; exact (List.getElem?_eq_some_iff.mp hk).1
      have h2' : (s.o.set j r)[j]? = some x := h2
      rw [List.getElem?_set_self hl] at h2'
      cases h2'
      exact (hr.ext ex).ro upd_same
    · have h2' : (s.o.set k r)[j]? = some x := h2
      rw [List.getElem?_set_ne (Ne.symm hj)] at h2'
      have nab : b ≠ a := fun e => hj (nodup_get h.r.nd h1 (e ▸ hk))
      exact (h.r.ob j b x h1 h2').ext ex fun o q _ => by rw [upd_ne nab]; exact q
  · obtain ⟨v, q1, q2⟩ := h.sl i sv q
    exact ⟨v, q1, ex.rv q2⟩
def frz : MO → D
  | .l ds => .list ds
  | .k ps => .dict (kvD ps)
  | _ => .none
def flat : MO → Bool
  | .l _ => true
  | .k _ => true
  | _ => false
def refs1 (n : Nat) : MO → Bool
  | .r ks => ks.all fun k => decide (k < n)
  | .g ps => ps.all fun p => decide (p.2 < n)
  | _ => true
def refsB : Nat → List MO → Bool
  | _, [] => true
  | n, x :: r => refs1 n x && refsB n r
theorem flat_l {ds : List D} : flat (.l ds) = true := rfl
theorem flat_k {ds : List (Key × D)} : flat (.k ds) = true := rfl
theorem refs1_l {n : Nat} {ds : List D} : refs1 n (.l ds) = true := rfl
theorem refs1_k {n : Nat} {ds : List (Key × D)} : refs1 n (.k ds) = true := rfl
theorem refsB_nil {n : Nat} : refsB n [] = true := rfl
theorem refsB_cons {n : Nat} {x : MO} {r : List MO} : refsB n (x :: r) = (refs1 n x && refsB n r) := rfl
theorem refsB_get : ∀ {o : List MO} {n k : Nat} {x : MO}, refsB n o = true → o[k]? = some x → refs1 n x = true
  | [], _, _, _, _, h => by simp at h
  | y :: r, n, 0, x, h, e => by
    simp only [refsB, Bool.and_eq_true] at h
    simp at e; subst e; exact h.1
  | y :: r, n, k + 1, x, h, e => by
    simp only [refsB, Bool.and_eq_true] at h
    exact refsB_get h.2 (by simpa using e)
theorem RnA.less {M : List Addr} {p : Addr} : ∀ {vs : List V} {ks : List Nat}, RnA (M ++ [p]) vs ks → (ks.all fun k => decide (k < M.length)) = true → RnA M vs ks
  | _, _, .nil, _ => .nil
  | _, _, .cons h r, e => by
    simp only [List.all_cons, Bool.and_eq_true, decide_eq_true_eq] at e
    rw [List.getElem?_append_left e.1] at h
    exact .cons h (RnA.less r e.2)
theorem RnK.less {M : List Addr} {p : Addr} : ∀ {vs : List (Key × V)} {ks : List (Key × Nat)}, RnK (M ++ [p]) vs ks → (ks.all fun k => decide (k.2 < M.length)) = true → RnK M vs ks
  | _, _, .nil, _ => .nil
  | _, _, .cons h r, e => by
    simp only [List.all_cons, Bool.and_eq_true, decide_eq_true_eq] at e
    rw [List.getElem?_append_left e.1] at h
    exact .cons h (RnK.less r e.2)
theorem own_end {Z : Zs} {M : List Addr} {o : List MO} {H : Hp} {p : Addr} {r : MO} (h : Rob Z (M ++ [p]) (o ++ [r]) H) (fl : flat r = true) (rf : refsB o.length o = true) : Rob Z M o H ∧ Rp (zz Z M) H (.ref p) (frz r) := by
  have hl : o.length = M.length := by
    have := h.len
    simp at this
    exact this
  have npM : p ∉ M := fun hm => by
    have := (List.nodup_append.mp h.nd).2.2 p hm p (by simp)
    exact this rfl
  have npZ : ¬ Z p := h.nz p (by simp)
  have k0 : ∀ (a : Addr) (u : HO), ¬ zz Z (M ++ [p]) a → H a = some u → nt u → ¬ zz Z M a ∧ H a = some u := fun a u z e _ =>
    ⟨fun y => z (y.elim .inl fun q => .inr (List.mem_append_left _ q)), e⟩
  have ro : ∀ {a : Addr} {x : MO}, refs1 M.length x = true → Ro Z (M ++ [p]) H a x → Ro Z M H a x := fun {a x} rx q => by
    cases x with
    | l ds => obtain ⟨xs, q1, q2⟩ := q; exact ⟨xs, q1, q2.mono k0⟩
    | k ps => obtain ⟨xs, q1, q2⟩ := q; exact ⟨xs, q1, q2.mono k0⟩
    | r ks => obtain ⟨xs, q1, q2⟩ := q; exact ⟨xs, q1, q2.less rx⟩
    | g ps => obtain ⟨xs, q1, q2⟩ := q; exact ⟨xs, q1, q2.less rx⟩
  refine ⟨⟨(List.nodup_append.mp h.nd).1, h.zs, fun a ha => h.nz a (List.mem_append_left _ ha), hl, fun k a x h1 h2 => ?_, h.tb⟩, ?_⟩
  · have hk : k < M.length := (List.getElem?_eq_some_iff.mp h1).1
    exact ro (refsB_get (hl ▸ rf) h2) (h.ob k a x (by rw [List.getElem?_append_left hk]; exact h1) (by rw [List.getElem?_append_left (by rw [hl]; exact hk)]; exact h2))
  · have q := ro (by cases r <;> first | rfl | cases fl) (h.ob M.length p r (by rw [List.getElem?_append_right (Nat.le_refl _)]; simp) (by rw [List.getElem?_append_right (by rw [hl]; exact Nat.le_refl _), hl]; simp))
    have nz : ¬ zz Z M p := fun y => y.elim npZ npM
    cases r with
    | l ds => obtain ⟨xs, q1, q2⟩ := q; exact .lst nz q1 q2
    | k ps => obtain ⟨xs, q1, q2⟩ := q; exact .dct nz (.inl q1) q2
    | r ks => cases fl
    | g ps => cases fl
abbrev NM := S → Option (MO × List MO)
def SnN (t : TE) (m : NM) : Prop := ∀ Z M s σ H, Rel Z M s σ H → ∀ r o', m s = some (r, o') → ∀ Q : VK,
  (∀ M' p H', M' = M → Ext M H (M' ++ [p]) H' → Rel Z (M' ++ [p]) { s with o := o' ++ [r] } σ H' → Q (.ref p) H') → t σ H Q
theorem Ext.init {M M' : List Addr} {H H' : Hp} {p : Addr} (hl : M' = M) (e : Ext M H (M' ++ [p]) H') : Ext M H M' H' := by
  obtain ⟨_, u, k, d, t⟩ := e
  exact ⟨⟨[], by rw [hl]; simp⟩, fun a h1 h2 y => u a h1 h2 (List.mem_append_left _ y), k, d, t⟩
theorem Rel.ended {Z : Zs} {M M' : List Addr} {s : S} {σ : L2.St} {H H' : Hp} {p : Addr} {o' : List MO} {r : MO} (h : Rel Z M s σ H) (hl : M' = M) (e : Ext M H (M' ++ [p]) H') (g : Rel Z (M' ++ [p]) { s with o := o' ++ [r] } σ H') (fl : flat r = true) (rf : refsB o'.length o' = true) :
    Rel Z M' (s.on o') σ H' ∧ Rp (zz Z M') H' (.ref p) (frz r) := by
  obtain ⟨q1, q2⟩ := own_end g.r fl rf
  exact ⟨h.ext_on (e.init hl) q1, q2⟩
def mDat (m : NM) : EM := fun s => match m s with
  | none => none
  | some (r, o') => if (flat r && refsB o'.length o') = true then some (.d (frz r), o') else none
theorem sn_dat {t : TE} {m : NM} (hm : SnN t m) : Sn t (mDat m) := by
  intro Z M s σ H h w o' e Q q
  unfold mDat at e
  split at e
  · cases e
  · rename_i r o1 er
    split at e
    · rename_i hc
      rw [Bool.and_eq_true] at hc
      cases e
      refine hm Z M s σ H h _ _ er _ fun M' p H' hl e' h' => ?_
      obtain ⟨g1, g2⟩ := h.ended hl e' h' hc.1 hc.2
      exact q M' _ H' ⟨e'.init hl, hl⟩ g1 g2
    · cases e
def mOwn (m : NM) (i : Nat) : SM := fun s => match m s with
  | none => none
  | some (r, o') => some (.nx ⟨sS (some (.m o'.length)) s.σ i, o' ++ [r]⟩)
theorem ss_own {te : TE} {m : NM} {i : Nat} (hm : SnN te m) : SnS (tAsg te (gName i)) (mOwn m i) := by
  intro Z M s σ H h out e E f
  unfold mOwn at e
  split at e
  · cases e
  · rename_i r o' er
    cases e
    refine hm Z M s σ H h _ _ er _ fun M' p H' hl e' h' => ?_
    have hlen : o'.length = M'.length := by
      have := h'.r.len
      simp at this
      exact this
    have h2 : Rel Z (M' ++ [p]) ⟨sS (some (.m o'.length)) s.σ i, o' ++ [r]⟩ (σ.set i (some (.ref p))) H' := h'.put (sv := .m o'.length) ⟨p, by rw [hlen, List.getElem?_append_right (Nat.le_refl _)]; simp, rfl⟩
    exact f (M' ++ [p]) _ H' e' h2
def mLstN (a : AM) : NM := fun s => match a s with
  | none => none
  | some (xs, o1) => match dats xs with
    | none => none
    | some ds => if ds.length ≤ 100000 then some (.l ds, o1) else none
theorem sn_lstN {ta : TA} {a : AM} (ha : SnA ta a) : SnN (tLst ta) (mLstN a) := by
  intro Z M s σ H h w o' e Q q
  unfold mLstN at e
  split at e
  · cases e
  · rename_i xs o1 ea
    refine ha Z M s σ H h _ _ ea _ fun M1 vs H1 ⟨e1, m1⟩ h1 r1 => ?_
    split at e
    · cases e
    · rename_i ds hd
      split at e
      · rename_i hl
        cases e
        have r2 := dats_ok r1 hd
        refine ⟨small_line (by rw [r2.length]; exact hl), fun p hp => ?_⟩
        obtain ⟨g1, g2⟩ := own_new (ob := .lst vs) (r := .l ds) h1 hp ⟨vs, rfl, r2⟩
        exact q M1 p _ m1 (e1.trans g2) g1
      · cases e
def mListN (a : EM) : NM := fun s => match a s with
  | none => none
  | some (x, o1) => match vw o1 x with
    | some (.list ds) => some (.l ds, o1)
    | some (.tuple ds) => some (.l ds, o1)
    | _ => none
theorem sn_listN {K : PySem.W.Frag} {ta : TE} {a : EM} (ha : Sn ta a) : SnN (tCB (fun xs H Q => ∃ p ys, xs = [.ref p] ∧ (SqL K H p ys ∨ SqT K H p ys) ∧ ∀ l, H l = none → Q (.ref l) (upd H l (.lst ys))) (tCons ta tNil)) (mListN a) := by
  intro Z M s σ H h w o' e Q q
  unfold mListN at e
  split at e
  · cases e
  · rename_i x o1 ea
    refine ha Z M s σ H h _ _ ea _ fun M1 v1 H1 ⟨e1, m1⟩ h1 r1 => ?_
    split at e
    · rename_i ds hd
      cases e
      obtain ⟨b, xs, rfl, hb, rb⟩ := vw_ok h1.r r1 hd
      refine ⟨b, xs, rfl, .inl (SqL.of hb), fun p hp => ?_⟩
      obtain ⟨g1, g2⟩ := own_new (ob := .lst xs) (r := .l ds) h1 hp ⟨xs, rfl, rb⟩
      exact q M1 p _ m1 (e1.trans g2) g1
    · rename_i ds hd
      cases e
      obtain ⟨b, xs, rfl, hb, rb, _⟩ := vw_ok h1.r r1 hd
      refine ⟨b, xs, rfl, .inr (hb.sq), fun p hp => ?_⟩
      obtain ⟨g1, g2⟩ := own_new (ob := .lst xs) (r := .l ds) h1 hp ⟨xs, rfl, rb⟩
      exact q M1 p _ m1 (e1.trans g2) g1
    · cases e
def mApp (a b : EM) : SM := fun s => match a s with
  | some (.m k, o1) => (match o1[k]? with
    | some (.l _) => (match b (s.on o1) with
      | some (.d d, o2) => (match o2[k]? with
        | some (.l ds) => if ds.length < 100000 then some (.nx (s.on (o2.set k (.l (ds ++ [d]))))) else none
        | _ => none)
      | _ => none)
    | _ => none)
  | _ => none
theorem Ext.at {M M' : List Addr} {H H' : Hp} {k : Nat} {a : Addr} (e : Ext M H M' H') (h : M[k]? = some a) : M'[k]? = some a := by
  obtain ⟨⟨x, hx⟩, _, _, _, _⟩ := e
  rw [hx, List.getElem?_append_left (List.getElem?_eq_some_iff.mp h).1]
  exact h
theorem rpA_snoc {Z : Zs} {H : Hp} {xs : List V} {ds : List D} {v : V} {d : D} (r : RpA Z H xs ds) (h : Rp Z H v d) : RpA Z H (xs ++ [v]) (ds ++ [d]) := r.append (.cons h .nil)
theorem ss_app {K : PySem.W.Frag} {ta tb : TE} {a b : EM} (ha : Sn ta a) (hb : Sn tb b) : SnS (tDrop (tBM K "list" rAppend ta (tCons tb tNil))) (mApp a b) := by
  intro Z M s σ H h out e E f
  unfold mApp at e
  split at e
  · rename_i k o1 ea
    refine ha Z M s σ H h _ _ ea _ fun M1 v1 H1 ⟨e1, _⟩ h1 r1 => ?_
    obtain ⟨p, hp, rfl⟩ := r1
    split at e
    · rename_i ds1 hk1
      obtain ⟨xs1, hx1, _⟩ := h1.r.ob k p _ hp hk1
      split at e
      · rename_i d o2 eb
        split at e
        · rename_i ds hk
          split at e
          · rename_i hl
            cases e
            refine ⟨.inl ⟨rfl, _, SqL.of hx1⟩, ?_⟩
            refine hb Z M1 (s.on o1) σ H1 h1 _ _ eb _ fun M2 v2 H2 ⟨e2, _⟩ h2 r2 => ?_
            have hp2 := e2.at hp
            obtain ⟨xs, hx, rx⟩ := h2.r.ob k p _ hp2 hk
            refine ⟨p, xs, v2, rfl, rfl, hx, Nat.lt_of_lt_of_le (by rw [rx.length]; exact hl) (small_line (Nat.le_refl _)), ?_⟩
            obtain ⟨g1, g2⟩ := own_mut (ob := .lst (xs ++ [v2])) (r := .l (ds ++ [d])) h2 hp2 ⟨_, rfl, rpA_snoc rx r2⟩
            exact f M2 σ _ ((e1.trans e2).trans g2) g1
          · cases e
        · cases e
      · cases e
    · cases e
  · cases e
def putD (ps : List (Key × D)) (k : Key) (d : D) : List (Key × D) := match ps with
  | [] => [(k, d)]
  | (a, b) :: r => if a = k then (a, d) :: r else (a, b) :: putD r k d
def mPut (v a b : EM) : SM := fun s => match v s with
  | some (.d d, o1) => (match a (s.on o1) with
    | some (.m k, o2) => (match b (s.on o2) with
      | some (.d dk, o3) => (match toKey dk, o3[k]? with
        | some key, some (.k ps) => if ps.length < 100000 ∧ (ps.map (·.1)).Nodup then some (.nx (s.on (o3.set k (.k (putD ps key d))))) else none
        | _, _ => none)
      | _ => none)
    | _ => none)
  | _ => none
theorem putK_cons_eq {k : Key} {v w : V} {r : List (Key × V)} (nd : k ∉ r.map (·.1)) : putK ((k, w) :: r) k v = (k, v) :: r := by
  unfold putK
  have e1 : (((k, w) :: r).any fun kv => decide (kv.1 = k)) = true := by simp
  rw [if_pos e1]
  simp only [List.map_cons, if_true]
  congr 1
  have : ∀ p ∈ r, (if p.1 = k then (p.1, v) else p) = p := fun p hp => by
    rw [if_neg]
    intro e
    exact nd (List.mem_map.mpr ⟨p, hp, e⟩)
  rw [List.map_congr_left this]
  simp
theorem putK_cons_ne {a k : Key} {v w : V} {r : List (Key × V)} (h : ¬ a = k) : putK ((a, w) :: r) k v = (a, w) :: putK r k v := by
  unfold putK
  by_cases hr : (r.any fun kv => decide (kv.1 = k)) = true
  · rw [if_pos hr, if_pos (by simp [hr]), List.map_cons, if_neg h]
  · rw [if_neg hr, if_neg (by simp only [List.any_cons, decide_eq_false h, Bool.false_or]; exact hr)]
    rfl
theorem rpK_keys {Z : Zs} {H : Hp} : ∀ {kvs : List (Key × V)} {ps : List (Key × D)}, RpK Z H kvs (kvD ps) → kvs.map (·.1) = ps.map (·.1)
  | [], [], _ => rfl
  | _ :: _, [], r => by simp [kvD] at r; cases r
  | [], _ :: _, r => by simp [kvD] at r; cases r
  | (k, v) :: kvs, (k', d) :: ps, r => by
    have e : kvD ((k', d) :: ps) = (kD k', d) :: kvD ps := rfl
    rw [e] at r
    generalize hk : kD k' = kk at r
    cases r with
    | cons h t =>
      have := kD_inj hk
      subst this
      simp [rpK_keys t]
theorem rpK_put {Z : Zs} {H : Hp} {k : Key} {v : V} {d : D} (hv : Rp Z H v d) : ∀ {kvs : List (Key × V)} {ps : List (Key × D)}, RpK Z H kvs (kvD ps) → (ps.map (·.1)).Nodup → RpK Z H (putK kvs k v) (kvD (putD ps k d))
  | [], [], _, _ => .cons hv .nil
  | _ :: _, [], r, _ => by simp [kvD] at r; cases r
  | [], _ :: _, r, _ => by simp [kvD] at r; cases r
  | (a, w) :: kvs, (a', e) :: ps, r, nd => by
    have h0 : kvD ((a', e) :: ps) = (kD a', e) :: kvD ps := rfl
    rw [h0] at r
    generalize hk : kD a' = kk at r
    cases r with
    | cons h t =>
      have := kD_inj hk
      subst this
      simp only [List.map_cons, List.nodup_cons] at nd
      by_cases hak : a' = k
      · subst hak
        rw [putK_cons_eq (by rw [rpK_keys t]; exact nd.1)]
        simp only [putD, if_true]
        exact .cons hv t
      · rw [putK_cons_ne hak]
        simp only [putD, if_neg hak]
        exact .cons h (rpK_put hv t nd.2)
theorem ss_put {td ty tv : TE} {v a b : EM} (hv : Sn tv v) (ha : Sn td a) (hb : Sn ty b) : SnS (sDPut td ty tv) (mPut v a b) := by
  intro Z M s σ H h out e E f
  unfold mPut at e
  split at e
  · rename_i d o1 ev
    refine hv Z M s σ H h _ _ ev _ fun M1 v1 H1 ⟨e1, _⟩ h1 r1 => ?_
    split at e
    · rename_i k o2 ea
      refine ha Z M1 (s.on o1) σ H1 h1 _ _ ea _ fun M2 v2 H2 ⟨e2, _⟩ h2 r2 => ?_
      obtain ⟨p, hp, rfl⟩ := r2
      split at e
      · rename_i dk o3 eb
        refine hb Z M2 (s.on o2) σ H2 h2 _ _ eb _ fun M3 v3 H3 ⟨e3, _⟩ h3 r3 => ?_
        split at e
        · rename_i key ps hkey hk
          split at e
          · rename_i hl
            cases e
            have hp3 := e3.at hp
            obtain ⟨kvs, hx, rx⟩ := h3.r.ob k p _ hp3 hk
            have hv3 : v3 = kV key := key_rt (Rp.rt r3) hkey
            subst hv3
            have hlen : kvs.length = ps.length := by rw [rx.length]; simp [kvD]
            obtain ⟨g1, g2⟩ := own_mut (ob := .dK (putK kvs key v1)) (r := .k (putD ps key d)) h3 hp3 ⟨_, rfl, rpK_put ((e2.trans e3).mono_d r1) rx hl.2⟩
            exact ⟨p, _, rfl, DPut.k hx (Nat.lt_of_lt_of_le (by rw [hlen]; exact hl.1) (small_line (Nat.le_refl _))), f M3 σ _ (((e1.trans e2).trans e3).trans g2) g1⟩
          · cases e
        · cases e
      · cases e
    · cases e
  · cases e
end
end AP

namespace AP
noncomputable section
open PySem PySem.Spec PyProof.Rows L2 RZ
variable [Tbls] [Gd]
def Src (Z : Zs) (M : List Addr) (H : Hp) (J : It) (items : List D) : Prop :=
  ∃ (G : Hp → Prop) (Y : Nat → Hp → V → Hp → Prop), L2.Walk J items.length G Y ∧ (∀ M2 H2, Ext M H M2 H2 → G H2) ∧
    ∀ i H2 x H3 M2, Ext M H M2 H2 → (∀ a, zz Z M2 a → H2 a ≠ none) → i < items.length → Y i H2 x H3 → New H2 H3 ∧ ∃ d, items[i]? = some d ∧ Rp (zz Z M2) H3 x d
abbrev IM := S → Option (List D × List MO)
def SnI (wi : TI) (m : IM) : Prop := ∀ Z M s σ H, Rel Z M s σ H → ∀ items o', m s = some (items, o') → ∀ R : It → Hp → Prop,
  (∀ J H', Ext M H M H' → Rel Z M (s.on o') σ H' → Src Z M H' J items → R J H') → wi σ H R
theorem TupAt.ext {Z : Zs} {M M' : List Addr} {H H' : Hp} {a : Addr} {xs : List V} {w : Bool} (h : TupAt H a xs w) (e : Ext M H M' H') (z : ¬ zz Z M a) : TupAt H' a xs w := h.mono fun o q n => e.keep a o (fun y => z (.inr y)) q n
theorem Ext.keepz {Z : Zs} {M M' : List Addr} {H H' : Hp} (e : Ext M H M' H') {a : Addr} {o : HO} (z : ¬ zz Z M a) (h : H a = some o) (t : nt o := by first | exact nt_lst | exact nt_tup | exact nt_dK) : H' a = some o := e.keep a o (fun y => z (.inr y)) h t
def seqOf : SV → Option (List D)
  | .d (.list ds) => some ds
  | .d (.tuple ds) => some ds
  | _ => none
def mItems (a : EM) : IM := fun s => match a s with
  | none => none
  | some (x, o1) => match seqOf x with
    | none => none
    | some ds => some (ds, o1)
theorem src_list {K : PySem.W.Frag} {Z : Zs} {M : List Addr} {H : Hp} {a : Addr} {xs : List V} {ds : List D} (z : ¬ zz Z M a) (h : H a = some (.lst xs)) (r : RpA (zz Z M) H xs ds) : Src Z M H (Itl K a) ds := by
  refine ⟨_, _, by rw [← r.length]; exact L2.walk_list (xs := xs), fun M2 H2 e => SqL.of (e.keepz z h), fun i H2 x H3 M2 e _ _ y => ?_⟩
  obtain ⟨rfl, hx⟩ := y
  obtain ⟨d, h1, h2⟩ := (e.mono_a r).getV hx
  exact ⟨New.refl _, d, h1, h2⟩
theorem src_tup {K : PySem.W.Frag} {Z : Zs} {M : List Addr} {H : Hp} {a : Addr} {xs : List V} {ds : List D} {w : Bool} (z : ¬ zz Z M a) (h : TupAt H a xs w) (r : RpA (zz Z M) H xs ds) : Src Z M H (Itt K a) ds := by
  refine ⟨_, _, by rw [← r.length]; exact L2.walk_tup (xs := xs), fun M2 H2 e => (h.ext e z).sq, fun i H2 x H3 M2 e _ _ y => ?_⟩
  obtain ⟨rfl, hx⟩ := y
  obtain ⟨d, h1, h2⟩ := (e.mono_a r).getV hx
  exact ⟨New.refl _, d, h1, h2⟩
def iSeq (K : PySem.W.Frag) (te : TE) : TI := fun σ H R => iList K te σ H R ∨ iTup K te σ H R
theorem pi_or {X : Cx} {tg e : Expr} {w w' : TI} (h : PI X tg e w) (h' : PI X tg e w') : PI X tg e (fun σ H R => w σ H R ∨ w' σ H R) :=
  ⟨fun pins s σ H R I q => q.elim (h.run pins s σ H R I) (h'.run pins s σ H R I)⟩
theorem si_seq {K : PySem.W.Frag} {te : TE} {a : EM} (ha : Sn te a) : SnI (iSeq K te) (mItems a) := by
  intro Z M s σ H h items o' e R q
  unfold mItems at e
  split at e
  · cases e
  · rename_i x o1 ea
    split at e
    · cases e
    · rename_i ds hd
      cases e
      unfold seqOf at hd
      split at hd
      · cases hd
        refine .inl (ha Z M s σ H h _ _ ea _ fun M1 v1 H1 ⟨e1, m1⟩ h1 r1 => ?_)
        subst m1
        have r2 : Rp (zz Z _) H1 v1 (.list items) := r1
        cases r2 with
        | lst z hx rx => exact ⟨_, rfl, ⟨_, SqL.of hx⟩, q _ H1 e1 h1 (src_list z hx rx)⟩
      · cases hd
        refine .inr (ha Z M s σ H h _ _ ea _ fun M1 v1 H1 ⟨e1, m1⟩ h1 r1 => ?_)
        subst m1
        have r2 : Rp (zz Z _) H1 v1 (.tuple items) := r1
        cases r2 with
        | tup z hx rx => exact ⟨_, rfl, ⟨_, hx.sq⟩, q _ H1 e1 h1 (src_tup z hx rx)⟩
      · cases hd
def mSigns (a : EM) : IM := fun s => match a s with
  | some (.d (.str z), o1) => some (z.cps.toList.map fun c => PyData.str ⟨#[c]⟩, o1)
  | _ => none
theorem si_str {te : TE} {a : EM} (ha : Sn te a) : SnI (iStr te) (mSigns a) := by
  intro Z M s σ H h items o' e R q
  unfold mSigns at e
  split at e
  · rename_i z o1 ea
    cases e
    refine ha Z M s σ H h _ _ ea _ fun M1 v1 H1 ⟨e1, m1⟩ h1 r1 => ?_
    subst m1
    have r2 : Rp (zz Z _) H1 v1 (.str z) := r1
    cases r2
    refine ⟨z, rfl, q _ H1 e1 h1 ?_⟩
    refine ⟨_, _, by rw [List.length_map, Array.length_toList]; exact L2.walk_str (z := z), fun _ _ _ => trivial, fun i H2 x H3 M2 e _ _ y => ?_⟩
    obtain ⟨rfl, c, hc, rfl⟩ := y
    exact ⟨New.refl _, _, by rw [List.getElem?_map]; simp [hc], .str _⟩
  · cases e
def rangeD (n : Nat) : List D := (List.range n).map fun (i : Nat) => PyData.int (i : Int)
def mRange (a : AM) : IM := fun s => match a s with
  | some ([.d (.int n)], o1) => if n ≤ 100000 ∧ -100000 ≤ n then some (rangeD n.toNat, o1) else none
  | _ => none
theorem si_range1 {ta : TA} {a : AM} (ha : SnA ta a) : SnI (iRng1 ta) (mRange a) := by
  intro Z M s σ H h items o' e R q
  unfold mRange at e
  split at e
  · rename_i n o1 ea
    split at e
    · rename_i hn
      cases e
      refine ha Z M s σ H h _ _ ea _ fun M1 vs H1 ⟨e1, m1⟩ h1 r1 => ?_
      subst m1
      cases r1 with
      | cons hx t =>
        cases t
        have r2 : Rp (zz Z _) H1 _ (.int n) := hx
        cases r2
        refine ⟨n, rfl, by omega, by omega, q _ H1 e1 h1 ?_⟩
        refine ⟨_, _, by rw [show (rangeD n.toNat).length = n.toNat by simp [rangeD]]; exact L2.walk_range (lo := 0), fun _ _ _ => trivial, fun i H2 x H3 M2 e _ hi y => ?_⟩
        obtain ⟨rfl, rfl⟩ := y
        have hi2 : i < n.toNat := by simpa [rangeD] using hi
        refine ⟨New.refl _, .int (i : Int), by simp [rangeD, hi2], ?_⟩
        show Rp _ _ (V.int (0 + (i : Int))) _
        rw [Int.zero_add]
        exact .int _
    · cases e
  · cases e
def zipD : List D → List D → List D
  | x :: xs, y :: ys => .tuple [x, y] :: zipD xs ys
  | _, _ => []
theorem zipD_len : ∀ xs ys : List D, (zipD xs ys).length = min xs.length ys.length
  | [], _ => by simp [zipD]
  | _ :: _, [] => by simp [zipD]
  | x :: xs, y :: ys => by simp [zipD, zipD_len xs ys]
theorem zipD_get : ∀ (xs ys : List D) (i : Nat) (d e : D), xs[i]? = some d → ys[i]? = some e → (zipD xs ys)[i]? = some (.tuple [d, e])
  | [], _, _, _, _, h, _ => by simp at h
  | _ :: _, [], _, _, _, _, h => by simp at h
  | x :: xs, y :: ys, 0, d, e, h, h2 => by simp at h h2; subst h; subst h2; rfl
  | x :: xs, y :: ys, i + 1, d, e, h, h2 => by
    simp only [zipD, List.getElem?_cons_succ] at *
    exact zipD_get xs ys i d e h h2
theorem pair_of {Z : Zs} {M : List Addr} {H : Hp} {xs : List V} {ds : List D} (r : RpA (zz Z M) H xs ds) (i : Nat) (x : V) (h : xs[i]? = some x) : ∃ d, ds[i]? = some d ∧ ∀ M2 H2, Ext M H M2 H2 → Rp (zz Z M2) H2 x d := by
  obtain ⟨d, h1, h2⟩ := r.getV h
  exact ⟨d, h1, fun M2 H2 e => e.mono_d h2⟩
def enumD (k : Int) : List D → List D
  | [] => []
  | x :: xs => .tuple [.int k, x] :: enumD (k + 1) xs
theorem enumD_len : ∀ (xs : List D) (k : Int), (enumD k xs).length = xs.length
  | [], _ => rfl
  | x :: xs, k => by simp [enumD, enumD_len xs]
theorem enumD_get : ∀ (xs : List D) (k : Int) (i : Nat) (d : D), xs[i]? = some d → (enumD k xs)[i]? = some (.tuple [.int (k + i), d])
  | [], _, _, _, h => by simp at h
  | x :: xs, k, 0, d, h => by simp at h; subst h; simp [enumD]
  | x :: xs, k, i + 1, d, h => by
    simp only [enumD, List.getElem?_cons_succ] at *
    rw [enumD_get xs (k + 1) i d h]
    congr 4
    omega
def loopM (g : GM) (b : SM) : List D → SM
  | [], s => some (.nx s)
  | d :: r, s => match g (.d d) s with
    | none => none
    | some s1 => match b s1 with
      | none => none
      | some (.nx s2) => loopM g b r s2
      | some (.ct s2) => loopM g b r s2
      | some (.bk s2) => some (.nx s2)
      | some (.rt v o) => some (.rt v o)
def mFor (im : IM) (g : GM) (b : SM) : SM := fun s => match im s with
  | none => none
  | some (items, o1) => loopM g b items (s.on o1)
theorem ss_for {wi : TI} {tg : TG} {tb : TS} {im : IM} {g : GM} {b : SM} (hi : SnI wi im) (hg : SnG tg g) (hb : SnS tb b) : SnS (tFor wi tg tb) (mFor im g b) := by
  intro Z M s σ H h out e E f
  unfold mFor at e
  split at e
  · cases e
  · rename_i items o1 ei
    refine hi Z M s σ H h items o1 ei _ fun J H1 e1 h1 src => ?_
    obtain ⟨G, Y, w, hG, hY⟩ := src
    refine L2.for_it w (fun i σ2 H2 => ∃ M2 s2, Ext M H1 M2 H2 ∧ Rel Z M2 s2 σ2 H2 ∧ loopM g b (items.drop i) s2 = some out) ⟨M, _, Ext.refl M H1, h1, e⟩ (fun i σ2 H2 _ ⟨M2, s2, x, _⟩ => hG M2 H2 x) ?_ ?_
    · rintro i x σ2 H2 H3 hin ⟨M2, s2, e2, h2, l2⟩ hy
      obtain ⟨nw, d, hd, rd⟩ := hY i H2 x H3 M2 e2 h2.r.zzd hin hy
      have edrop : items.drop i = d :: items.drop (i + 1) := by
        rw [List.drop_eq_getElem_cons hin]
        congr 1
        have := List.getElem?_eq_getElem hin
        rw [hd] at this
        exact (Option.some.inj this).symm
      rw [edrop] at l2
      unfold loopM at l2
      split at l2
      · cases l2
      · rename_i s3 es
        refine hg Z M2 s2 σ2 H3 (h2.new nw) x (.d d) rd s3 es _ fun M4 σ4 H4 e4 h4 => ?_
        have e24 : Ext M H1 M4 H4 := (e2.trans (Ext.new nw)).trans e4.toExt
        have e04 : Ext M H M4 H4 := e1.trans e24
        split at l2
        · cases l2
        · rename_i s5 eb
          refine hb Z M4 s3 σ4 H4 h4 _ eb _ ?_
          exact fun M6 σ6 H6 e6 h6 => ⟨M6, s5, e24.trans e6, h6, l2⟩
        · rename_i s5 eb
          refine hb Z M4 s3 σ4 H4 h4 _ eb _ ?_
          exact fun M6 σ6 H6 e6 h6 => ⟨M6, s5, e24.trans e6, h6, l2⟩
        · rename_i s5 eb
          cases l2
          refine hb Z M4 s3 σ4 H4 h4 _ eb _ ?_
          exact fun M6 σ6 H6 e6 h6 => f M6 σ6 H6 (e04.trans e6) h6
        · rename_i v5 o5 eb
          cases l2
          refine hb Z M4 s3 σ4 H4 h4 _ eb _ ?_
          exact fun M6 v6 H6 e6 h6 r6 => f M6 v6 H6 (e04.trans e6) h6 r6
    · rintro σ2 H2 ⟨M2, s2, e2, h2, l2⟩
      rw [List.drop_length] at l2
      unfold loopM at l2
      cases l2
      exact f M2 σ2 H2 (e1.trans e2) h2
def whileM (c : TM) (b : SM) : Nat → SM
  | 0, _ => none
  | n + 1, s => match c s with
    | none => none
    | some (false, o1) => some (.nx (s.on o1))
    | some (true, o1) => match b (s.on o1) with
      | none => none
      | some (.nx s2) => whileM c b n s2
      | some (.ct s2) => whileM c b n s2
      | some (.bk s2) => some (.nx s2)
      | some (.rt v o) => some (.rt v o)
theorem ss_while {tc : TT} {tb : TS} {c : TM} {b : SM} (n : Nat) (hc : SnT tc c) (hb : SnS tb b) : SnS (tWhile tc tb) (whileM c b n) := by
  intro Z M s σ H h out e E f
  refine ⟨fun m σ2 H2 => ∃ M2 s2, Ext M H M2 H2 ∧ Rel Z M2 s2 σ2 H2 ∧ whileM c b m s2 = some out, ⟨n, M, s, Ext.refl M H, h, e⟩, ?_⟩
  rintro m σ2 H2 ⟨M2, s2, e2, h2, l2⟩
  cases m with
  | zero => unfold whileM at l2; cases l2
  | succ m =>
    unfold whileM at l2
    split at l2
    · cases l2
    · rename_i o1 ec
      cases l2
      refine hc Z M2 s2 σ2 H2 h2 _ _ ec _ fun M3 H3 ⟨e3, _⟩ h3 => ?_
      rw [if_neg (by decide)]
      exact f M3 σ2 H3 (e2.trans e3) h3
    · rename_i o1 ec
      refine hc Z M2 s2 σ2 H2 h2 _ _ ec _ fun M3 H3 ⟨e3, _⟩ h3 => ?_
      rw [if_pos rfl]
      have e03 := e2.trans e3
      refine ⟨fun σ4 H4 => ∃ M4 s4, Ext M H M4 H4 ∧ Rel Z M4 s4 σ4 H4 ∧ whileM c b m s4 = some out, fun σ4 H4 q => ⟨m, Nat.lt_succ_self m, q⟩, ?_⟩
      split at l2
      · cases l2
      · rename_i s5 eb
        refine hb Z M3 (s2.on o1) σ2 H3 h3 _ eb _ ?_
        exact fun M6 σ6 H6 e6 h6 => ⟨M6, s5, e03.trans e6, h6, l2⟩
      · rename_i s5 eb
        refine hb Z M3 (s2.on o1) σ2 H3 h3 _ eb _ ?_
        exact fun M6 σ6 H6 e6 h6 => ⟨M6, s5, e03.trans e6, h6, l2⟩
      · rename_i s5 eb
        cases l2
        refine hb Z M3 (s2.on o1) σ2 H3 h3 _ eb _ ?_
        exact fun M6 σ6 H6 e6 h6 => f M6 σ6 H6 (e03.trans e6) h6
      · rename_i v5 o5 eb
        cases l2
        refine hb Z M3 (s2.on o1) σ2 H3 h3 _ eb _ ?_
        exact fun M6 v6 H6 e6 h6 r6 => f M6 v6 H6 (e03.trans e6) h6 r6
end
end AP

namespace AP
noncomputable section
open PySem PySem.Spec PyProof.Rows L2 RZ
variable [Tbls] [Gd]
theorem meets_enum1 {v : Value} {o : Obj} {H : Heap → Prop} (B : Begins v o H) :
    Meets (Builtin.«enumerate.__new__» ⟨[.type "enumerate", v], []⟩) (fun _ R s => H s.heap ∧
      R (.ok (.ret (.ref (s.heap.push o).objs.size))) { s with heap := (s.heap.push o).push { cls := .type "enumerate", data := .fields #[.none, .bool false, .ref s.heap.objs.size, rawInt 0, .none, .none] } }) := by
  refine .of_wp fun prog w A R s h => ?_
  obtain ⟨hp, g, d, tk, os⟩ := s
  obtain ⟨h1, h⟩ := h
  have hsub := sub_enumerate
  have q1 : ∀ {A' : Around} {E : Value → Shared → Prop} {Q : Value → Shared → Prop}, Q (.ref hp.objs.size) ⟨hp.push o, g, d, tk, os⟩ → wpAny (model prog w) A' (pyIter v) Q E ⟨hp, g, d, tk, os⟩ := fun q => B.iter prog w _ _ ⟨hp, g, d, tk, os⟩ _ h1 q
  wp_walk using q1
  refine wpAny_stack_any fun st => wpAny_pure ?_
  split
  · rename_i c _ _ _ _ _
    cases (c == Value.type "enumerate") <;> (wp_walk using q1; exact ⟨_, rfl, h⟩)
  · wp_walk using q1
    exact ⟨_, rfl, h⟩
theorem call_enumB {prog : Program} {w : World} {A : Around} {E : Value → Shared → Prop} {s : Shared} {v : Value} {o : Obj} {H : Heap → Prop} {Q : Value → Shared → Prop} (B : Begins v o H) (h1 : H s.heap)
    (h : ∀ h', IsEnum h' (s.heap.objs.size + 1) s.heap.objs.size 0 .none → h'.get? s.heap.objs.size = some o → (∀ b u, s.heap.get? b = some u → h'.get? b = some u) → Q (.ref (s.heap.objs.size + 1)) { s with heap := h' }) :
    wpAny (model prog w) A (call (.type "enumerate") [v]) Q E s := by
  refine callType_new F.called_enumerate (by decide) (F.typeCall_enumerate_1 _) (F.newCall_enumerate_1 _) (fun obj => F.args_object_init_2 obj _) F.entry_enumerate_new (meets_enum1 B) ⟨h1, ?_⟩
  have hz : (s.heap.push o).objs.size = s.heap.objs.size + 1 := Heap.size_push ..
  show _ ∧ _
  rw [hz]
  have he : IsEnum ((s.heap.push o).push { cls := .type "enumerate", data := .fields #[.none, .bool false, .ref s.heap.objs.size, rawInt 0, .none, .none] }) (s.heap.objs.size + 1) s.heap.objs.size 0 .none := by
    have z := Heap.get?_push_size (s.heap.push o) (o := { cls := .type "enumerate", data := .fields #[.none, .bool false, .ref s.heap.objs.size, rawInt 0, .none, .none] }) rfl
    rw [hz] at z
    exact z
  exact ⟨⟨_, he, rfl⟩, h _ he (Heap.get?_push_of_some _ (Heap.get?_push_size _ B.free)) fun b u x => Heap.get?_push_of_some _ (Heap.get?_push_of_some _ x)⟩
def YPairF (f g : Nat → Option V) (i : Nat) (H : Hp) (v : V) (H' : Hp) : Prop := ∃ T x y, v = .ref T ∧ H T = none ∧ (∃ o : Obj, o.dict = none ∧ H' = upd H T (.frz o (.tup [x, y]))) ∧ f i = some x ∧ g i = some y
theorem src_pairF {Z : Zs} {M : List Addr} {H : Hp} {J : It} {n : Nat} {G : Hp → Prop} {f g : Nat → Option V} {f' g' : Nat → Option D} (w : L2.Walk J n G (YPairF f g)) (hG : ∀ M2 H2, Ext M H M2 H2 → G H2)
    (hf : ∀ i x, f i = some x → ∃ d, f' i = some d ∧ ∀ M2 H2, Ext M H M2 H2 → Rp (zz Z M2) H2 x d) (hg : ∀ i x, g i = some x → ∃ d, g' i = some d ∧ ∀ M2 H2, Ext M H M2 H2 → Rp (zz Z M2) H2 x d)
    (items : List D) (hl : items.length = n) (hi : ∀ i d e, i < n → f' i = some d → g' i = some e → items[i]? = some (.tuple [d, e])) : Src Z M H J items := by
  refine ⟨G, _, by rw [hl]; exact w, hG, fun i H2 x H3 M2 e hz hin y => ?_⟩
  obtain ⟨T, u, v, rfl, hT, ⟨o, ho, rfl⟩, hu, hv⟩ := y
  obtain ⟨d1, h1, k1⟩ := hf i u hu
  obtain ⟨d2, h2, k2⟩ := hg i v hv
  have nw := New.upd (o := .frz o (.tup [u, v])) hT
  exact ⟨nw, _, hi i d1 d2 (by rw [← hl]; exact hin) h1 h2, .tup (fresh_nz hz hT) (TupAt.new ho) (.cons ((k1 M2 H2 e).new nw) (.cons ((k2 M2 H2 e).new nw) .nil))⟩
def IteT (K : PySem.W.Frag) (a : Addr) : It where
  go i H := ∃ (xs : List V) (x : V), SqT K H a xs ∧ xs[i]? = some x
  yld i H v H' := ∃ T x, v = .ref T ∧ H T = none ∧ (∃ o : Obj, o.dict = none ∧ H' = upd H T (.frz o (.tup [.int (i : Nat), x]))) ∧ ∀ xs, SqT K H a xs → xs[i]? = some x
  stop i H := ∃ xs : List V, SqT K H a xs ∧ xs.length = i
def AtT (a e it : Addr) (i : Nat) (h : Heap) : Prop := (∃ old, IsEnum h e it ((i : Nat) : Int) old) ∧ h.IsTupleIter it a i ∧ e ≠ it ∧ a ≠ it ∧ e ≠ a
theorem turn_enumT {P : Program} {w : World} {K : PySem.W.Frag} {elts : List Expr} {kk : Nat} {tpos : Pos} (a e it : Addr) : Turn P w K (.Tuple elts kk tpos) (IteT K a) [e, it] e (AtT a e it) := by
  constructor
  case mem => simp
  case obj =>
    rintro i h ⟨⟨old, he⟩, ⟨o, ho, hc, hd⟩, _⟩ b hb
    rcases (by simpa using hb : b = e ∨ b = it) with z | z
    · rw [z]; exact ⟨_, he, fun v q => nomatch q⟩
    · rw [z]; exact ⟨o, ho, fun v q => by rw [hd] at q; cases q⟩
  case keep =>
    rintro i h h' ⟨⟨old, he⟩, hi, ne⟩ k
    exact ⟨⟨old, k e (by simp) _ he⟩, hi.at fun o q => k it (by simp) o q, ne⟩
  case item =>
    intro X hP hw hK hc i pins s σ H E I hf st hg
    subst hP hw hK
    obtain ⟨⟨old, he⟩, hit, ne1, ne2, ne3⟩ := st
    obtain ⟨xs, x, hq, hx⟩ := hg
    obtain ⟨its, rv, p, hz⟩ := I.tuple hq
    obtain ⟨u, hu, ru⟩ := rv.get hx
    have lte : e < s.heap.objs.size := Heap.lt_size he
    have lti : it < s.heap.objs.size := by obtain ⟨_, q, _⟩ := hit; exact Heap.lt_size q
    have lta : a < s.heap.objs.size := by obtain ⟨_, q, _⟩ := id p; exact Heap.lt_size q
    have Dr := Draws.tuple (prog := X.prog) (w := X.w) (A := X.A.in1) (I.ok.hd hc) it a ne2 its.toArray
    have hlt : i < its.toArray.size := by
      have := (List.getElem?_eq_some_iff.mp hu).1
      simpa using this
    refine wpAny_pyNext_enum_itemD Dr he ⟨hit, p⟩ hlt ne1 (by simp only [List.mem_cons, List.not_mem_nil, or_false, not_or]; exact ⟨ne1, ne3⟩) fun y h' tk hy ho hst hT hsz hk => ?_
    have ey : y = u := by
      have h2 : its.toArray[i]? = some u := by simpa using hu
      exact Option.some.inj (hy.symm.trans h2)
    subst ey
    refine ⟨_, rfl, wpAny_letOwnedTupleGo_enum (s := { s with heap := h', toks := tk + 1 }) ho fun h2 he2 sb => ?_⟩
    have hT2 : h2.get? s.heap.objs.size = some { cls := .type "tuple", data := .seq #[.int i tk, y] } := (sb.2 _ (Nat.ne_of_gt lte)).trans hT
    have new : ObjOk X.prog X.w (upd H s.heap.objs.size (.frz { cls := .type "tuple", data := .seq #[.int i tk, y] } (.tup [.int (i : Nat), x]))) h2 s.heap.objs.size (.frz { cls := .type "tuple", data := .seq #[.int i tk, y] } (.tup [.int (i : Nat), x])) :=
      ⟨hT2, by show 2 ≤ sizeLine; decide, [.int i tk, y], .cons ⟨_, rfl⟩ (.cons ru .nil), ⟨_, hT2, rfl, _, rfl⟩⟩
    have I1 : L2.Inv X pins σ (upd H s.heap.objs.size (.frz { cls := .type "tuple", data := .seq #[.int i tk, y] } (.tup [.int (i : Nat), x]))) { s with heap := h2, toks := tk + 1 } :=
      I.turnedNew (ch := [e, it]) (fun b ob hb q => (sb.2 b (fun z => hb (by simp [z]))).trans (hk b ob (fun z => hb (by simp [z])) (fun z => hb (by simp [z])) q)) hf (Nat.le_refl _) new
    refine ⟨.ref s.heap.objs.size, _, I1, rfl, ⟨_, x, rfl, I.hok.fresh (Nat.le_refl _), ⟨_, rfl, rfl⟩, fun ys hy => by rw [I.tuple_inj hy hq]; exact hx⟩, ⟨⟨y, ?_⟩, hst.1.at fun o q => (sb.2 it (Ne.symm ne1)).trans q, ne1, ne2, ne3⟩, fun b hb => ?_⟩
    · have e1 : ((i + 1 : Nat) : Int) = (i : Int) + 1 := by omega
      rw [e1]; exact he2
    · have hb' : b < s.heap.objs.size := by
        rcases (by simpa using hb : b = e ∨ b = it) with z | z
        · rw [z]; exact lte
        · rw [z]; exact lti
      rw [upd_ne (Nat.ne_of_lt hb')]
      exact (hf b hb).1
  case done =>
    intro X hP hw hK hc i pins s σ H E I hf st hg
    subst hP hw hK
    obtain ⟨⟨old, he⟩, hit, ne1, ne2, ne3⟩ := st
    obtain ⟨xs, hq, hx⟩ := hg
    obtain ⟨its, rv, p, hz⟩ := I.tuple hq
    obtain ⟨f0, f1, f2, f3, f4, f5⟩ := hf it (by simp)
    have hl : its.toArray.size = i := by rw [List.size_toArray, ← rv.length]; exact hx
    have Dr := Draws.tuple (prog := X.prog) (w := X.w) (A := X.A.in1) (I.ok.hd hc) it a ne2 its.toArray
    rw [hl] at Dr
    exact wpAny_pyNext_enum_endD Dr he ⟨hit, p⟩ fun h' eb => ⟨rfl, I.turned (t' := s.toks) (fun b o hb q => eb b o hb q) f0 f1 f3 f4 f5⟩
  case self => exact fun A i s Q E st h => wpAny_pyIter_enum st.1.choose_spec h
theorem walk_enumT {K : PySem.W.Frag} {a : Addr} {xs : List V} : L2.Walk (IteT K a) xs.length (fun H => SqT K H a xs) (YPairF (fun i => some (.int (i : Nat))) (fun i => xs[i]?)) := by
  refine ⟨fun i _ hi q => ⟨xs, xs[i], q, by simp [hi]⟩, fun _ q => ⟨xs, q, rfl⟩, fun i H v H' _ q y => ?_⟩
  obtain ⟨T, x, h1, h2, h3, h4⟩ := y
  exact ⟨T, .int (i : Nat), x, h1, h2, h3, rfl, h4 xs q⟩
def iEnT (K : PySem.W.Frag) (ta : TA) : TI := fun σ H R => ta σ H fun vs H1 => ∃ a xs, vs = [.ref a] ∧ SqT K H1 a xs ∧ R (IteT K a) H1
theorem pi_enT {X : Cx} {e : Expr} {ta : TA} {p pos tpos : Pos} {elts : List Expr} {kk : Nat} (hg : Gl X "enumerate") (hm : X.mg "enumerate" = none) (ha : PA X [e] ta) (hs : starEach [e] X.env = [(false, eval e X.env)] := by rfl) :
    PI X (.Tuple elts kk tpos) (.Call (.Name "enumerate" p) [e] [] pos) (iEnT X.K ta) := by
  constructor
  intro pins s σ H R I h
  refine Call_ (ld_blt I hg hm boot_enumerate (PyProof.Rows.callWith_type1 (thn (ha.run pos pins s σ H _ I h) ?_) hs rfl))
  rintro us s1 ⟨vs, H1, I1, r1, a, xs, ex, hq, q⟩
  subst ex
  cases r1 with
  | cons r rr =>
    cases rr
    cases r
    obtain ⟨its, rv, p', hz⟩ := I1.tuple hq
    have lta : a < s1.heap.objs.size := by obtain ⟨_, z, _⟩ := id p'; exact Heap.lt_size z
    refine call_enumB (begins_tuple a its.toArray) p' fun h' he hit hk => wpAny_pyIter_enum he ?_
    have I2 : L2.Inv X pins σ H1 { s1 with heap := h' } := I1.kept (t' := s1.toks) hk
    refine ⟨s1.heap.objs.size + 1, [s1.heap.objs.size + 1, s1.heap.objs.size], _, _, H1, rfl, I2, turn_enumT a (s1.heap.objs.size + 1) s1.heap.objs.size, ⟨⟨.none, he⟩, ⟨_, hit, rfl, rfl⟩, Nat.succ_ne_self _, Nat.ne_of_lt lta, Nat.ne_of_gt (Nat.lt_succ_of_lt lta)⟩, fun b hb => ?_, q⟩
    have hle : s1.heap.objs.size ≤ b := by
      rcases (by simpa using hb : b = s1.heap.objs.size + 1 ∨ b = s1.heap.objs.size) with z | z
      · rw [z]; exact Nat.le_succ _
      · rw [z]; exact Nat.le_refl _
    exact I1.fpOk hle (I1.hok.fresh hle)
def IteL (K : PySem.W.Frag) (a : Addr) : It where
  go i H := ∃ (xs : List V) (x : V), SqL K H a xs ∧ xs[i]? = some x
  yld i H v H' := ∃ T x, v = .ref T ∧ H T = none ∧ (∃ o : Obj, o.dict = none ∧ H' = upd H T (.frz o (.tup [.int (i : Nat), x]))) ∧ ∀ xs, SqL K H a xs → xs[i]? = some x
  stop i H := ∃ xs : List V, SqL K H a xs ∧ xs.length = i
def AtL (a e it : Addr) (i : Nat) (h : Heap) : Prop := (∃ old, IsEnum h e it ((i : Nat) : Int) old) ∧ h.IsListIter it a i ∧ e ≠ it ∧ a ≠ it ∧ e ≠ a
theorem turn_enumL {P : Program} {w : World} {K : PySem.W.Frag} {elts : List Expr} {kk : Nat} {tpos : Pos} (a e it : Addr) : Turn P w K (.Tuple elts kk tpos) (IteL K a) [e, it] e (AtL a e it) := by
  constructor
  case mem => simp
  case obj =>
    rintro i h ⟨⟨old, he⟩, ⟨o, ho, hc, hd⟩, _⟩ b hb
    rcases (by simpa using hb : b = e ∨ b = it) with z | z
    · rw [z]; exact ⟨_, he, fun v q => nomatch q⟩
    · rw [z]; exact ⟨o, ho, fun v q => by rw [hd] at q; cases q⟩
  case keep =>
    rintro i h h' ⟨⟨old, he⟩, hi, ne⟩ k
    exact ⟨⟨old, k e (by simp) _ he⟩, hi.at fun o q => k it (by simp) o q, ne⟩
  case item =>
    intro X hP hw hK hc i pins s σ H E I hf st hg
    subst hP hw hK
    obtain ⟨⟨old, he⟩, hit, ne1, ne2, ne3⟩ := st
    obtain ⟨xs, x, hq, hx⟩ := hg
    obtain ⟨its, rv, p, hz⟩ := I.list hq
    obtain ⟨u, hu, ru⟩ := rv.get hx
    have lte : e < s.heap.objs.size := Heap.lt_size he
    have lti : it < s.heap.objs.size := by obtain ⟨_, q, _⟩ := hit; exact Heap.lt_size q
    have lta : a < s.heap.objs.size := by obtain ⟨_, q, _⟩ := id p.isList; exact Heap.lt_size q
    have Dr := Draws.list (prog := X.prog) (w := X.w) (A := X.A.in1) (I.ok.hd hc) it a ne2 its.toArray
    have hlt : i < its.toArray.size := by
      have := (List.getElem?_eq_some_iff.mp hu).1
      simpa using this
    refine wpAny_pyNext_enum_itemD Dr he ⟨hit, p.isList⟩ hlt ne1 (by simp only [List.mem_cons, List.not_mem_nil, or_false, not_or]; exact ⟨ne1, ne3⟩) fun y h' tk hy ho hst hT hsz hk => ?_
    have ey : y = u := by
      have h2 : its.toArray[i]? = some u := by simpa using hu
      exact Option.some.inj (hy.symm.trans h2)
    subst ey
    refine ⟨_, rfl, wpAny_letOwnedTupleGo_enum (s := { s with heap := h', toks := tk + 1 }) ho fun h2 he2 sb => ?_⟩
    have hT2 : h2.get? s.heap.objs.size = some { cls := .type "tuple", data := .seq #[.int i tk, y] } := (sb.2 _ (Nat.ne_of_gt lte)).trans hT
    have new : ObjOk X.prog X.w (upd H s.heap.objs.size (.frz { cls := .type "tuple", data := .seq #[.int i tk, y] } (.tup [.int (i : Nat), x]))) h2 s.heap.objs.size (.frz { cls := .type "tuple", data := .seq #[.int i tk, y] } (.tup [.int (i : Nat), x])) :=
      ⟨hT2, by show 2 ≤ sizeLine; decide, [.int i tk, y], .cons ⟨_, rfl⟩ (.cons ru .nil), ⟨_, hT2, rfl, _, rfl⟩⟩
    have I1 : L2.Inv X pins σ (upd H s.heap.objs.size (.frz { cls := .type "tuple", data := .seq #[.int i tk, y] } (.tup [.int (i : Nat), x]))) { s with heap := h2, toks := tk + 1 } :=
      I.turnedNew (ch := [e, it]) (fun b ob hb q => (sb.2 b (fun z => hb (by simp [z]))).trans (hk b ob (fun z => hb (by simp [z])) (fun z => hb (by simp [z])) q)) hf (Nat.le_refl _) new
    refine ⟨.ref s.heap.objs.size, _, I1, rfl, ⟨_, x, rfl, I.hok.fresh (Nat.le_refl _), ⟨_, rfl, rfl⟩, fun ys hy => by rw [I.list_inj hy hq]; exact hx⟩, ⟨⟨y, ?_⟩, hst.1.at fun o q => (sb.2 it (Ne.symm ne1)).trans q, ne1, ne2, ne3⟩, fun b hb => ?_⟩
    · have e1 : ((i + 1 : Nat) : Int) = (i : Int) + 1 := by omega
      rw [e1]; exact he2
    · have hb' : b < s.heap.objs.size := by
        rcases (by simpa using hb : b = e ∨ b = it) with z | z
        · rw [z]; exact lte
        · rw [z]; exact lti
      rw [upd_ne (Nat.ne_of_lt hb')]
      exact (hf b hb).1
  case done =>
    intro X hP hw hK hc i pins s σ H E I hf st hg
    subst hP hw hK
    obtain ⟨⟨old, he⟩, hit, ne1, ne2, ne3⟩ := st
    obtain ⟨xs, hq, hx⟩ := hg
    obtain ⟨its, rv, p, hz⟩ := I.list hq
    obtain ⟨f0, f1, f2, f3, f4, f5⟩ := hf it (by simp)
    have hl : its.toArray.size = i := by rw [List.size_toArray, ← rv.length]; exact hx
    have Dr := Draws.list (prog := X.prog) (w := X.w) (A := X.A.in1) (I.ok.hd hc) it a ne2 its.toArray
    rw [hl] at Dr
    exact wpAny_pyNext_enum_endD Dr he ⟨hit, p.isList⟩ fun h' eb => ⟨rfl, I.turned (t' := s.toks) (fun b o hb q => eb b o hb q) f0 f1 f3 f4 f5⟩
  case self => exact fun A i s Q E st h => wpAny_pyIter_enum st.1.choose_spec h
theorem walk_enumL {K : PySem.W.Frag} {a : Addr} {xs : List V} : L2.Walk (IteL K a) xs.length (fun H => SqL K H a xs) (YPairF (fun i => some (.int (i : Nat))) (fun i => xs[i]?)) := by
  refine ⟨fun i _ hi q => ⟨xs, xs[i], q, by simp [hi]⟩, fun _ q => ⟨xs, q, rfl⟩, fun i H v H' _ q y => ?_⟩
  obtain ⟨T, x, h1, h2, h3, h4⟩ := y
  exact ⟨T, .int (i : Nat), x, h1, h2, h3, rfl, h4 xs q⟩
def iEnL (K : PySem.W.Frag) (ta : TA) : TI := fun σ H R => ta σ H fun vs H1 => ∃ a xs, vs = [.ref a] ∧ SqL K H1 a xs ∧ R (IteL K a) H1
theorem pi_enL {X : Cx} {e : Expr} {ta : TA} {p pos tpos : Pos} {elts : List Expr} {kk : Nat} (hg : Gl X "enumerate") (hm : X.mg "enumerate" = none) (ha : PA X [e] ta) (hs : starEach [e] X.env = [(false, eval e X.env)] := by rfl) :
    PI X (.Tuple elts kk tpos) (.Call (.Name "enumerate" p) [e] [] pos) (iEnL X.K ta) := by
  constructor
  intro pins s σ H R I h
  refine Call_ (ld_blt I hg hm boot_enumerate (PyProof.Rows.callWith_type1 (thn (ha.run pos pins s σ H _ I h) ?_) hs rfl))
  rintro us s1 ⟨vs, H1, I1, r1, a, xs, ex, hq, q⟩
  subst ex
  cases r1 with
  | cons r rr =>
    cases rr
    cases r
    obtain ⟨its, rv, p', hz⟩ := I1.list hq
    have lta : a < s1.heap.objs.size := by obtain ⟨_, z, _⟩ := id p'.isList; exact Heap.lt_size z
    refine call_enumB (begins_list a its.toArray) p'.isList fun h' he hit hk => wpAny_pyIter_enum he ?_
    have I2 : L2.Inv X pins σ H1 { s1 with heap := h' } := I1.kept (t' := s1.toks) hk
    refine ⟨s1.heap.objs.size + 1, [s1.heap.objs.size + 1, s1.heap.objs.size], _, _, H1, rfl, I2, turn_enumL a (s1.heap.objs.size + 1) s1.heap.objs.size, ⟨⟨.none, he⟩, ⟨_, hit, rfl, rfl⟩, Nat.succ_ne_self _, Nat.ne_of_lt lta, Nat.ne_of_gt (Nat.lt_succ_of_lt lta)⟩, fun b hb => ?_, q⟩
    have hle : s1.heap.objs.size ≤ b := by
      rcases (by simpa using hb : b = s1.heap.objs.size + 1 ∨ b = s1.heap.objs.size) with z | z
      · rw [z]; exact Nat.le_succ _
      · rw [z]; exact Nat.le_refl _
    exact I1.fpOk hle (I1.hok.fresh hle)
def mEnum (a : AM) : IM := fun s => match a s with
  | some ([.d (.list xs)], o1) => some (enumD 0 xs, o1)
  | some ([.d (.tuple xs)], o1) => some (enumD 0 xs, o1)
  | _ => none
def iEnA (K : PySem.W.Frag) (ta : TA) : TI := fun σ H R => iEnL K ta σ H R ∨ iEnT K ta σ H R
theorem pi_enA {X : Cx} {e : Expr} {ta : TA} {p pos tpos : Pos} {elts : List Expr} {kk : Nat} (hg : Gl X "enumerate") (hm : X.mg "enumerate" = none) (ha : PA X [e] ta) (hs : starEach [e] X.env = [(false, eval e X.env)] := by rfl) :
    PI X (.Tuple elts kk tpos) (.Call (.Name "enumerate" p) [e] [] pos) (iEnA X.K ta) := pi_or (pi_enL hg hm ha hs) (pi_enT hg hm ha hs)
theorem enum_items {Z : Zs} {M : List Addr} {H : Hp} {xs : List V} {ds : List D} {J : It} {G : Hp → Prop} (w : L2.Walk J xs.length G (YPairF (fun i => some (.int (i : Nat))) (fun i => xs[i]?))) (r : RpA (zz Z M) H xs ds) (hG : ∀ M2 H2, Ext M H M2 H2 → G H2) :
    Src Z M H J (enumD 0 ds) := by
  refine src_pairF (f' := fun i => some (.int (i : Int))) (g' := fun i => ds[i]?) w hG (fun i x hx => ?_) (pair_of r) _ (by rw [enumD_len, r.length]) fun i d e _ a b => ?_
  · cases hx; exact ⟨_, rfl, fun M2 H2 e => .int _⟩
  · cases a
    have z := enumD_get ds 0 i e b
    rw [Int.zero_add] at z
    exact z
theorem si_enum {K : PySem.W.Frag} {ta : TA} {a : AM} (ha : SnA ta a) : SnI (iEnA K ta) (mEnum a) := by
  intro Z M s σ H h items o' e R q
  unfold mEnum at e
  split at e
  · rename_i xs o1 ea
    cases e
    refine .inl (ha Z M s σ H h _ _ ea _ fun M1 vs H1 ⟨e1, m1⟩ h1 r1 => ?_)
    subst m1
    cases r1 with
    | cons hx t =>
      cases t
      have r2 : Rp (zz Z _) H1 _ (.list xs) := hx
      cases r2 with
      | lst z2 hx2 rx2 => exact ⟨_, _, rfl, SqL.of hx2, q _ H1 e1 h1 (enum_items (walk_enumL (K := K)) rx2 fun M2 H2 e => SqL.of (e.keepz z2 hx2))⟩
  · rename_i xs o1 ea
    cases e
    refine .inr (ha Z M s σ H h _ _ ea _ fun M1 vs H1 ⟨e1, m1⟩ h1 r1 => ?_)
    subst m1
    cases r1 with
    | cons hx t =>
      cases t
      have r2 : Rp (zz Z _) H1 _ (.tuple xs) := hx
      cases r2 with
      | tup z2 hx2 rx2 => exact ⟨_, _, rfl, hx2.sq, q _ H1 e1 h1 (enum_items (walk_enumT (K := K)) rx2 fun M2 H2 e => (hx2.ext e z2).sq)⟩
  · cases e
def wipeS (σ : List (Option SV)) : List Nat → List (Option SV)
  | [] => σ
  | v :: vs => (wipeS σ vs).set v none
structure GK (vs : List Nat) (g : TG) : Prop where
  mono : ∀ v σ H (Q Q' : L2.St → Hp → Prop), (∀ σ' H', Q σ' H' → Q' σ' H') → g v σ H Q → g v σ H Q'
  kept : ∀ v σ H (Q : L2.St → Hp → Prop), g v σ H (fun σ' H' => wipe σ' vs = wipe σ vs → Q σ' H') → g v σ H Q
structure GKs (vs : List Nat) (g : TGs) : Prop where
  mono : ∀ v σ H (Q Q' : L2.St → Hp → Prop), (∀ σ' H', Q σ' H' → Q' σ' H') → g v σ H Q → g v σ H Q'
  kept : ∀ v σ H (Q : L2.St → Hp → Prop), g v σ H (fun σ' H' => wipe σ' vs = wipe σ vs → Q σ' H') → g v σ H Q
theorem wipe_set {σ : L2.St} {j : Nat} {x : Option V} : ∀ {vs : List Nat}, j ∈ vs → wipe (σ.set j x) vs = wipe σ vs
  | [], h => by simp at h
  | v :: vs, h => by
    show (wipe (σ.set j x) vs).set v none = (wipe σ vs).set v none
    by_cases hj : j ∈ vs
    · rw [wipe_set hj]
    · have e : j = v := by simpa [hj] using h
      subst e
      have k : ∀ (us : List Nat) (τ : L2.St), j ∉ us → wipe (τ.set j x) us = (wipe τ us).set j x := by
        intro us
        induction us with
        | nil => intro τ _; rfl
        | cons u us ih =>
          intro τ hu
          simp only [List.mem_cons, not_or] at hu
          show (wipe (τ.set j x) us).set u none = ((wipe τ us).set u none).set j x
          rw [ih τ hu.2, List.set_comm _ _ hu.1]
      rw [k vs σ hj, List.set_set]
theorem gk_name {vs : List Nat} {i : Nat} (h : i ∈ vs) : GK vs (gName i) := ⟨fun v σ H Q Q' k q => k _ _ q, fun v σ H Q q => q (wipe_set h)⟩
theorem gks_nil {vs : List Nat} : GKs vs gNil := ⟨fun v σ H Q Q' k q => ⟨q.1, k _ _ q.2⟩, fun v σ H Q q => ⟨q.1, q.2 rfl⟩⟩
theorem gks_cons {vs : List Nat} {t : TG} {u : TGs} (a : GK vs t) (b : GKs vs u) : GKs vs (gCons t u) := by
  refine ⟨fun v σ H Q Q' k q => ?_, fun v σ H Q q => ?_⟩
  · obtain ⟨x, r, e, q⟩ := q
    exact ⟨x, r, e, a.mono _ _ _ _ _ (fun σ' H' z => b.mono _ _ _ _ _ k z) q⟩
  · obtain ⟨x, r, e, q⟩ := q
    refine ⟨x, r, e, a.kept _ _ _ _ (a.mono _ _ _ _ _ (fun σ' H' z w => b.kept _ _ _ _ (b.mono _ _ _ _ _ (fun σ2 H2 z2 w2 => z2 (w2.trans w)) z)) q)⟩
theorem gk_tup {vs : List Nat} {K : PySem.W.Frag} {n : Nat} {t : TGs} (a : GKs vs t) : GK vs (gTup K n t) := by
  refine ⟨fun v σ H Q Q' k q => ?_, fun v σ H Q q => ?_⟩
  · obtain ⟨x, xs, e, e2, e3, q⟩ := q
    exact ⟨x, xs, e, e2, e3, a.mono _ _ _ _ _ k q⟩
  · obtain ⟨x, xs, e, e2, e3, q⟩ := q
    exact ⟨x, xs, e, e2, e3, a.kept _ _ _ _ q⟩
def mYes : TM := fun s => some (true, s.o)
theorem sn_yes : SnT tYes mYes := by
  intro Z M s σ H h r o' e Q q
  cases e
  exact q M H (Ex2.refl M H) h
def lcLoop (k : Nat) (g : GM) (c : TM) (e : EM) (τ : List (Option SV)) : List D → List MO → Option (List MO)
  | [], o => some o
  | d :: r, o => match g (.d d) ⟨τ, o⟩ with
    | none => none
    | some s2 => match c s2 with
      | none => none
      | some (false, o3) => lcLoop k g c e τ r o3
      | some (true, o3) => match e (s2.on o3) with
        | some (.d x, o4) => (match o4[k]? with
          | some (.l acc) => if acc.length < 100000 then lcLoop k g c e τ r (o4.set k (.l (acc ++ [x]))) else none
          | _ => none)
        | _ => none
def mLc (im : IM) (g : GM) (c : TM) (e : EM) (vs : List Nat) : NM := fun s => match im s with
  | none => none
  | some (items, o1) => match lcLoop o1.length g c e (wipeS s.σ vs) items (o1 ++ [.l []]) with
    | none => none
    | some oF => (match oF[o1.length]? with
      | some (.l acc) => some (.l acc, oF.take o1.length)
      | _ => none)
theorem rel_wipe {Z : Zs} {M : List Addr} {s : S} {σ : L2.St} {H : Hp} (h : Rel Z M s σ H) : ∀ vs : List Nat, Rel Z M ⟨wipeS s.σ vs, s.o⟩ (wipe σ vs) H
  | [] => h
  | v :: vs => by
    have ih := rel_wipe h vs
    refine ⟨ih.r, fun i sv q => ?_, ?_⟩
    · have q' : ((wipeS s.σ vs).set v none)[i]? = some (some sv) := q
      by_cases hi : v = i
      · subst hi
        by_cases hl : v < (wipeS s.σ vs).length
        · rw [List.getElem?_set_self hl] at q'; cases q'
        · rw [List.getElem?_eq_none (by simpa using hl)] at q'; cases q'
      · rw [List.getElem?_set_ne hi] at q'
        obtain ⟨u, h1, h2⟩ := ih.sl i sv q'
        refine ⟨u, ?_, h2⟩
        show ((wipe σ vs).set v none)[i]? = _
        rw [List.getElem?_set_ne hi]
        exact h1
    · show ((wipeS s.σ vs).set v none).length = ((wipe σ vs).set v none).length
      rw [List.length_set, List.length_set]
      exact ih.sn
theorem wipe_wipe (σ : L2.St) : ∀ vs us : List Nat, (∀ v ∈ us, v ∈ vs) → wipe (wipe σ vs) us = wipe σ vs
  | vs, [], _ => rfl
  | vs, u :: us, h => by
    show (wipe (wipe σ vs) us).set u none = wipe σ vs
    rw [wipe_wipe σ vs us fun v hv => h v (List.mem_cons_of_mem _ hv)]
    apply List.ext_getElem?
    intro i
    by_cases hi : u = i
    · subst hi
      by_cases hl : u < (wipe σ vs).length
      · rw [List.getElem?_set_self hl]
        cases e : (wipe σ vs)[u]? with
        | none => rw [List.getElem?_eq_getElem hl] at e; cases e
        | some o =>
          cases o with
          | none => rfl
          | some x => exact absurd (h u List.mem_cons_self) (wipe_some e).2
      · rw [List.getElem?_eq_none (by simpa using hl), List.getElem?_eq_none (by simpa using hl)]
    · rw [List.getElem?_set_ne hi]
theorem sn_lc {wi : TI} {tg : TG} {tt : TT} {te : TE} {vs : List Nat} {im : IM} {g : GM} {c : TM} {e : EM} (hi : SnI wi im) (hg : SnG tg g) (gk : GK vs tg) (hc : SnT tt c) (he : Sn te e) : SnN (tLc wi tg tt te vs) (mLc im g c e vs) := by
  intro Z M s σ H h r o' ev Q q
  unfold mLc at ev
  split at ev
  · cases ev
  · rename_i items o1 ei
    split at ev
    · cases ev
    · rename_i oF el
      split at ev
      · rename_i acc hacc
        cases ev
        refine hi Z M s σ H h items o1 ei _ fun J H1 e1 h1 src => ?_
        obtain ⟨G, Y, w, hG, hY⟩ := src
        intro Dl hD
        have k1 : o1.length = M.length := h1.r.len
        obtain ⟨n1, n2⟩ := own_new (ob := .lst []) (r := .l []) h1 hD ⟨[], rfl, .nil⟩
        have w1 := rel_wipe n1 vs
        have atD : ∀ M2 : List Addr, M2 = M ++ [Dl] → M2[o1.length]? = some Dl := fun M2 e => by
          rw [e, k1, List.getElem?_append_right (Nat.le_refl _)]; simp
        refine L2.lc_it w (fun i H2 => ∃ o2, Ext M H1 (M ++ [Dl]) H2 ∧ Rel Z (M ++ [Dl]) ⟨wipeS s.σ vs, o2⟩ (wipe σ vs) H2 ∧ lcLoop o1.length g c e (wipeS s.σ vs) (items.drop i) o2 = some oF)
          ⟨_, n2, w1, el⟩ (fun i H2 _ ⟨o2, x, _⟩ => hG _ H2 x) ?_ ?_
        · rintro i x H2 H3 hin ⟨o2, e2, h2, l2⟩ hy
          obtain ⟨nw, d, hd, rd⟩ := hY i H2 x H3 (M ++ [Dl]) e2 h2.r.zzd hin hy
          have edrop : items.drop i = d :: items.drop (i + 1) := by
            rw [List.drop_eq_getElem_cons hin]
            congr 1
            have z := List.getElem?_eq_getElem hin
            rw [hd] at z
            exact (Option.some.inj z).symm
          rw [edrop] at l2
          unfold lcLoop at l2
          split at l2
          · cases l2
          · rename_i s3 es
            refine gk.kept _ _ _ _ ?_
            refine hg Z _ _ _ H3 (h2.new nw) x (.d d) rd s3 es _ fun M4 σ4 H4 ⟨e4, m4⟩ h4 w4 => ?_
            subst m4
            rw [wipe_wipe σ vs vs fun _ z => z] at w4
            refine ⟨w4, ?_⟩
            have e24 : Ext M H1 (M ++ [Dl]) H4 := (e2.trans (Ext.new nw)).trans e4
            have back : ∀ {o5 : List MO} {H5 : Hp}, Ext (M ++ [Dl]) H4 (M ++ [Dl]) H5 → Rob Z (M ++ [Dl]) o5 H5 → Rel Z (M ++ [Dl]) ⟨wipeS s.σ vs, o5⟩ (wipe σ vs) H5 := fun {o5 H5} e5 r5 =>
              (h2.ext_on (o := o5) (((Ext.new nw).trans e4).trans e5) r5)
            split at l2
            · cases l2
            · rename_i o5 ec
              refine hc Z _ s3 σ4 H4 h4 _ _ ec _ fun M5 H5 ⟨e5, m5⟩ h5 => ?_
              subst m5
              rw [if_neg (by decide)]
              exact ⟨o5, e24.trans e5, back e5 h5.r, l2⟩
            · rename_i o5 ec
              refine hc Z _ s3 σ4 H4 h4 _ _ ec _ fun M5 H5 ⟨e5, m5⟩ h5 => ?_
              subst m5
              rw [if_pos rfl]
              split at l2
              · rename_i x6 o6 ee
                refine he Z _ (s3.on o5) σ4 H5 h5 _ _ ee _ fun M6 v6 H6 ⟨e6, m6⟩ h6 r6 => ?_
                subst m6
                split at l2
                · rename_i acc6 ha6
                  split at l2
                  · rename_i hl6
                    obtain ⟨xs, hx, rx⟩ := h6.r.ob o1.length Dl _ (atD _ rfl) ha6
                    obtain ⟨g1, g2⟩ := own_mut (ob := .lst (xs ++ [v6])) (r := .l (acc6 ++ [x6])) h6 (atD _ rfl) ⟨_, rfl, rpA_snoc rx r6⟩
                    refine ⟨xs, hx, Nat.lt_of_lt_of_le (by rw [rx.length]; exact hl6) (small_line (Nat.le_refl _)), _, ((e24.trans e5).trans e6).trans g2, back ((e5.trans e6).trans g2) g1.r, l2⟩
                  · cases l2
                · cases l2
              · cases l2
        · rintro H2 ⟨o2, e2, h2, l2⟩
          rw [List.drop_length] at l2
          unfold lcLoop at l2
          cases l2
          have hl : oF.length = o1.length + 1 := by
            have z := h2.r.len
            simp at z
            rw [k1]; exact z
          have eo : oF.take o1.length ++ [.l acc] = oF := by
            have z := List.take_append_getElem (show o1.length < oF.length by omega)
            have z2 := List.getElem?_eq_getElem (show o1.length < oF.length by omega)
            rw [hacc] at z2
            rw [Option.some.inj z2, z, List.take_of_length_le (by omega)]
          refine q M Dl H2 rfl (e1.trans e2) ?_
          rw [eo]
          exact h.ext_on (o := oF) (e1.trans e2) h2.r
      · cases ev
end
end AP

namespace AP
noncomputable section
open PySem PySem.Spec PyProof.Rows L2 RZ
variable [Tbls] [Gd]
abbrev Fun1 := List D → Option D
structure ZOk (Z : Zs) (H : Hp) : Prop where
  z : ∀ a, Z a → Has H a
  t : LamX.Tabs Tbls.T H
def spP (n : Nat) (f : Fun1) : Sp := fun vs H Q _ => ∃ (Z : Zs) (ds : List D) (d : D), ZOk Z H ∧ RpA Z H vs ds ∧ ds.length = n ∧ f ds = some d ∧ ∀ v H', New H H' → Rp Z H' v d → Q v H'
def st0 (N : Nat) (xs : List SV) : List (Option SV) := xs.map some ++ List.replicate (N - xs.length) none
theorem st0_rel {Z : Zs} {M : List Addr} {H : Hp} {vs : List V} {xs : List SV} {o : List MO} {N : List Str} (r : Rob Z M o H) (h : RvA Z M H vs xs) : Rel Z M ⟨st0 N.length xs, o⟩ (start N vs) H := by
  have hl : vs.length = xs.length := by
    clear r
    induction h with
    | nil => rfl
    | cons _ _ ih => simp [ih]
  have get : ∀ {us : List V} {ys : List SV}, RvA Z M H us ys → ∀ (i : Nat) (sv : SV), ys[i]? = some sv → ∃ v, us[i]? = some v ∧ Rv Z M H v sv := by
    intro us ys q
    induction q with
    | nil => intro i sv e; simp at e
    | cons hv _ ih =>
      intro i sv e
      cases i with
      | zero => simp at e; subst e; exact ⟨_, rfl, hv⟩
      | succ i => simp at e; obtain ⟨v, a, b⟩ := ih i sv e; exact ⟨v, by simpa using a, b⟩
  refine ⟨r, fun i sv q => ?_, by simp [st0, L2.start, hl]⟩
  have q' : (xs.map some ++ List.replicate (N.length - xs.length) none)[i]? = some (some sv) := q
  by_cases hi : i < xs.length
  · rw [List.getElem?_append_left (by simpa using hi), List.getElem?_map] at q'
    obtain ⟨x, e1, e2⟩ := Option.map_eq_some_iff.mp q'
    cases e2
    obtain ⟨v, a, b⟩ := get h i sv e1
    refine ⟨v, ?_, b⟩
    unfold L2.start
    rw [List.getElem?_append_left (by simpa [hl] using hi), List.getElem?_map, a]
    rfl
  · rw [List.getElem?_append_right (by simpa using hi), List.getElem?_replicate] at q'
    split at q' <;> cases q'
def inr (o : List MO) : List Nat → Option (List D)
  | [] => some []
  | k :: ks => match o[k]?, inr o ks with
    | some (.l ds), some r => some (.list ds :: r)
    | some (.k ps), some r => some (.dict (kvD ps) :: r)
    | _, _ => none
def inrK (o : List MO) : List (Key × Nat) → Option (List (Key × D))
  | [] => some []
  | (x, k) :: ks => match o[k]?, inrK o ks with
    | some (.l ds), some r => some ((x, .list ds) :: r)
    | some (.k ps), some r => some ((x, .dict (kvD ps)) :: r)
    | _, _ => none
def tB (o : List MO) : List (D ⊕ Nat) → Option (List D)
  | [] => some []
  | .inl x :: r => (match tB o r with
    | some ds => some (x :: ds)
    | none => none)
  | .inr k :: r => (match vw o (.m k), tB o r with
    | some d, some ds => some (d :: ds)
    | _, _ => none)
def vwE (o : List MO) : SV → Option D
  | .m k => match o[k]? with
    | some (.r ks) => (inr o ks).map .list
    | some (.g ps) => (inrK o ps).map fun l => .dict (kvD l)
    | _ => vw o (.m k)
  | .t xs => (tB o xs).map .tuple
  | x => vw o x
def retD : Option Out → Option D
  | some (.rt v o) => vwE o v
  | some (.nx _) => some .none
  | _ => none
def runP (N : Nat) (m : SM) : Fun1 := fun ds => retD (m ⟨st0 N (ds.map .d), []⟩)
theorem rvA_dats {Z : Zs} {H : Hp} : ∀ {vs : List V} {ds : List D}, RpA Z H vs ds → RvA Z [] H vs (ds.map .d)
  | _, _, .nil => .nil
  | _, _, .cons h r => .cons (h.mono fun a o z q _ => ⟨fun y => y.elim z (by simp), q⟩) (rvA_dats r)
theorem given_up0 {Z : Zs} {M : List Addr} {o : List MO} {H : Hp} {v : V} {sv : SV} {d : D} (r : Rob Z M o H) (h : Rv Z M H v sv) (e : vw o sv = some d) : Rp Z H v d := by
  have k : ∀ (a : Addr) (u : HO), ¬ zz Z M a → H a = some u → nt u → ¬ Z a ∧ H a = some u := fun a u z q _ => ⟨fun y => z (.inl y), q⟩
  cases sv with
  | d x => cases e; exact Rp.mono k h
  | m i =>
    obtain ⟨a, q, rfl⟩ := h
    simp only [vw] at e
    cases ho : o[i]? with
    | none => rw [ho] at e; cases e
    | some x =>
      rw [ho] at e
      have p := r.ob i a x q ho
      have nz : ¬ Z a := r.nz a (List.mem_of_getElem? q)
      cases x with
      | l ds => cases e; obtain ⟨xs, p1, p2⟩ := p; exact .lst nz p1 (p2.mono k)
      | k ps => cases e; obtain ⟨xs, p1, p2⟩ := p; exact .dct nz (.inl p1) (p2.mono k)
      | r ks => cases e
      | g ps => cases e
  | w u => cases e
  | q _ _ => cases e
  | t _ => cases e
theorem inr_rp {Z : Zs} {M : List Addr} {o : List MO} {H : Hp} (r : Rob Z M o H) : ∀ {xs : List V} {ks : List Nat} {ds : List D}, RnA M xs ks → inr o ks = some ds → RpA Z H xs ds
  | _, _, _, .nil, e => by simp only [inr] at e; cases e; exact .nil
  | _, _, _, .cons (k := k) hm t, e => by
    simp only [inr] at e
    split at e
    · rename_i ds rr ho hr
      cases e
      exact .cons (given_up0 (sv := .m k) r ⟨_, hm, rfl⟩ (by simp only [vw, ho])) (inr_rp r t hr)
    · rename_i ps rr ho hr
      cases e
      exact .cons (given_up0 (sv := .m k) r ⟨_, hm, rfl⟩ (by simp only [vw, ho])) (inr_rp r t hr)
    · cases e
theorem inrK_rp {Z : Zs} {M : List Addr} {o : List MO} {H : Hp} (r : Rob Z M o H) : ∀ {xs : List (Key × V)} {ks : List (Key × Nat)} {ds : List (Key × D)}, RnK M xs ks → inrK o ks = some ds → RpK Z H xs (kvD ds)
  | _, _, _, .nil, e => by simp only [inrK] at e; cases e; exact .nil
  | _, _, _, .cons (k := k) hm t, e => by
    simp only [inrK] at e
    split at e
    · rename_i ds rr ho hr
      cases e
      exact .cons (given_up0 (sv := .m k) r ⟨_, hm, rfl⟩ (by simp only [vw, ho])) (inrK_rp r t hr)
    · rename_i ps rr ho hr
      cases e
      exact .cons (given_up0 (sv := .m k) r ⟨_, hm, rfl⟩ (by simp only [vw, ho])) (inrK_rp r t hr)
    · cases e
theorem given_upB {Z : Zs} {M : List Addr} {o : List MO} {H : Hp} (r : Rob Z M o H) : ∀ {vs : List V} {xs : List (D ⊕ Nat)} {ds : List D}, RvB Z M H vs xs → tB o xs = some ds → RpA Z H vs ds
  | _, _, _, .nil, e => by simp only [tB] at e; cases e; exact .nil
  | _, _, _, .d h t, e => by
    simp only [tB] at e
    split at e
    · rename_i ds hd
      cases e
      exact .cons (h.mono fun a u z q _ => ⟨fun y => z (.inl y), q⟩) (given_upB r t hd)
    · cases e
  | _, _, _, .m (k := k) hm t, e => by
    simp only [tB] at e
    split at e
    · rename_i d ds hd hr
      cases e
      exact .cons (given_up0 (sv := .m k) r ⟨_, hm, rfl⟩ hd) (given_upB r t hr)
    · cases e
theorem given_up {Z : Zs} {M : List Addr} {o : List MO} {H : Hp} {v : V} {sv : SV} {d : D} (r : Rob Z M o H) (h : Rv Z M H v sv) (e : vwE o sv = some d) : Rp Z H v d := by
  cases sv with
  | d x => exact given_up0 r h e
  | w u => exact given_up0 r h e
  | q _ _ => exact given_up0 r h e
  | t xs =>
    obtain ⟨a, vs, rfl, z, g, rb⟩ := h
    simp only [vwE] at e
    obtain ⟨ds, h1, rfl⟩ := Option.map_eq_some_iff.mp e
    exact .tup (fun y => z (.inl y)) (g.imp id fun y => absurd y.1 Bool.false_ne_true) (given_upB r rb h1)
  | m i =>
    simp only [vwE] at e
    cases ho : o[i]? with
    | none => rw [ho] at e; exact given_up0 r h e
    | some x =>
      rw [ho] at e
      cases x with
      | l ds => exact given_up0 r h e
      | k ps => exact given_up0 r h e
      | r ks =>
        obtain ⟨ds, h1, h2⟩ := Option.map_eq_some_iff.mp e
        subst h2
        obtain ⟨a, q, rfl⟩ := h
        obtain ⟨xs, p1, p2⟩ := r.ob i a _ q ho
        exact .lst (r.nz a (List.mem_of_getElem? q)) p1 (inr_rp r p2 h1)
      | g ps =>
        obtain ⟨ds, h1, h2⟩ := Option.map_eq_some_iff.mp e
        subst h2
        obtain ⟨a, q, rfl⟩ := h
        obtain ⟨xs, p1, p2⟩ := r.ob i a _ q ho
        exact .dct (r.nz a (List.mem_of_getElem? q)) (.inl p1) (inrK_rp r p2 h1)
theorem ext_new {M' : List Addr} {H H' : Hp} (e : Ext [] H M' H') : New H H' := ⟨fun a o q t => e.keep a o (by simp) q t, e.tab⟩
section
variable {P : Program} {w : World} {K : PySem.W.Frag} {mg : Str → Option Value} {base : Heap} {x qual : Str} {params : Arguments} {body : List Stmt} {scope : Scope} {dvs : List V} {kws : List (Str × V)} {f : Addr} {fd : FuncData}
theorem def_pure {N ps : List Str} {k : Nat} {t : TS} {m : SM} (F : FunD K x qual params body scope dvs kws f fd) (sc : FnScope N ps scope)
    (reading : ∀ (cdv : Value), fd.code = cdv → ∀ (A : Around) (outer : List Env) (s : Shared) (H : Hp) (E : XK), GOk A → Room k (A.deeper (envOfC qual scope s.heap.objs.size f cdv)) → PSs (cxOf CX0 P w K mg base N qual scope f cdv A outer s H E) body t)
    (hm : SnS t m) : FnG P w K mg base CX0 (k + 1) f fd ps (spP ps.length (runP N.length m)) := by
  refine fnG_ok F sc (fun vs H Q E h => ?_) (fun cdv hv A outer s H vs Q E hg hr h => ⟨t, reading cdv hv A outer s H E hg hr, ?_⟩)
  · obtain ⟨Z, ds, d, _, r, hl, _⟩ := h
    rw [r.length, hl]
  · obtain ⟨Z, ds, d, hz, r, hl, hf, q⟩ := h
    unfold runP retD at hf
    have rob : Rob Z [] [] H := ⟨List.nodup_nil, hz.z, by simp, rfl, fun k a x e => by simp at e, hz.t⟩
    have rel := st0_rel (N := N) rob (rvA_dats r)
    split at hf
    · rename_i v o' em
      exact hm Z [] _ _ H rel _ em _ fun M' u H' e r' rv => q u H' (ext_new e) (given_up r' rv hf)
    · rename_i s' em
      cases hf
      exact hm Z [] _ _ H rel _ em _ fun M' u H' e r' => q .non H' (ext_new e) .non
    · cases hf
end
def mCall (n : Nat) (f : Fun1) (a : AM) : EM := fun s => match a s with
  | none => none
  | some (xs, o1) => match dats xs with
    | none => none
    | some ds => if ds.length = n then (match f ds with
      | some d => some (.d d, o1)
      | none => none) else none
theorem sn_call {n : Nat} {f : Fun1} {E : XK} {ta : TA} {a : AM} (ha : SnA ta a) : Sn (tCall (spP n f) [] E ta) (mCall n f a) := by
  intro Z M s σ H h w o' e Q q
  unfold mCall at e
  split at e
  · cases e
  · rename_i xs o1 ea
    refine ha Z M s σ H h _ _ ea _ fun M1 vs H1 e1 h1 r1 => ?_
    split at e
    · cases e
    · rename_i ds hd
      split at e
      · rename_i hn
        split at e
        · rename_i d hf
          cases e
          show spP n f (vs ++ []) H1 Q E
          rw [List.append_nil]
          exact ⟨zz Z M1, ds, d, ⟨h1.r.zzh, h1.r.tb⟩, dats_ok r1 hd, hn, hf, fun v H' nw r => q M1 v H' (e1.trans (Ex2.new nw)) (h1.new nw) r⟩
        · cases e
      · cases e
def mCallK (n : Nat) (f : Fun1) (ix : List Nat) (a : AM) : EM := fun s => match a s with
  | none => none
  | some (xs, o1) => match dats xs with
    | none => none
    | some ds => if (perm ix ds).length = n then (match f (perm ix ds) with
      | some d => some (.d d, o1)
      | none => none) else none
theorem perm_rp {Z : Zs} {H : Hp} {vs : List V} {ds : List D} (r : RpA Z H vs ds) : ∀ ix : List Nat, RpA Z H (perm ix vs) (perm ix ds)
  | [] => .nil
  | i :: ix => by
    unfold perm
    rw [List.filterMap_cons, List.filterMap_cons]
    cases h : ds[i]? with
    | none =>
      have h2 : vs[i]? = none := by
        rw [List.getElem?_eq_none_iff] at *
        rw [r.length]; exact h
      rw [h2]; exact perm_rp r ix
    | some x =>
      obtain ⟨u, h1, h2⟩ := r.get h
      rw [h1]
      exact .cons h2 (perm_rp r ix)
theorem sn_callK {n : Nat} {f : Fun1} {E : XK} {ix : List Nat} {ta : TA} {a : AM} (ha : SnA ta a) : Sn (tCallP (spP n f) ix E ta) (mCallK n f ix a) := by
  intro Z M s σ H h w o' e Q q
  unfold mCallK at e
  split at e
  · cases e
  · rename_i xs o1 ea
    refine ha Z M s σ H h _ _ ea _ fun M1 vs H1 e1 h1 r1 => ?_
    split at e
    · cases e
    · rename_i ds hd
      split at e
      · rename_i hn
        split at e
        · rename_i d hf
          cases e
          exact ⟨zz Z M1, perm ix ds, d, ⟨h1.r.zzh, h1.r.tb⟩, perm_rp (dats_ok r1 hd) ix, hn, hf, fun v H' nw r => q M1 v H' (e1.trans (Ex2.new nw)) (h1.new nw) r⟩
        · cases e
      · cases e
abbrev Fun2 := MO → List D → Option (D × MO)
structure Kp (F : Addr) (H H' : Hp) : Prop where
  at_ : ∀ a o, a ≠ F → H a = some o → nt o → H' a = some o
  tab : LamX.Tabs Tbls.T H → LamX.Tabs Tbls.T H'
  dom : ∀ a, Has H a → Has H' a
def spF (n : Nat) (f : Fun2) : Sp := fun vs H Q _ => ∃ (Z : Zs) (F : Addr) (rest : List V) (fo : MO) (ds : List D) (d : D) (fo' : MO), vs = .ref F :: rest ∧ ZOk Z H ∧ ¬ Z F ∧ Ro Z [F] H F fo ∧ RpA (zz Z [F]) H rest ds ∧ ds.length + 1 = n ∧
  f fo ds = some (d, fo') ∧ ∀ v H', Kp F H H' → Ro Z [F] H' F fo' → Rp (zz Z [F]) H' v d → Q v H'
def not0 : List (D ⊕ Nat) → Bool
  | [] => true
  | .inl _ :: r => not0 r
  | .inr k :: r => !Nat.beq k 0 && not0 r
def vwG (o : List MO) : SV → Option D
  | .m k => if Nat.beq k 0 = true then none else vw o (.m k)
  | .t xs => if not0 xs = true then (tB o xs).map .tuple else none
  | _ => none
def retF : Option Out → Option (D × MO)
  | some (.rt (.d v) (fo :: _)) => some (v, fo)
  | some (.rt v (fo :: l)) => (match vwG (fo :: l) v with
    | some d => some (d, fo)
    | none => none)
  | some (.nx ⟨_, fo :: _⟩) => some (.none, fo)
  | _ => none
theorem out0 {Z : Zs} {F : Addr} {y : List Addr} {o : List MO} {H : Hp} (r : Rob Z (F :: y) o H) {a : Addr} {k : Nat} {d : D} (h : (F :: y)[k]? = some a) (hk : k ≠ 0) (e : vw o (.m k) = some d) : Rp (zz Z [F]) H (.ref a) d := by
  have nF : a ≠ F := fun z => hk (by
    have h0 : (F :: y)[0]? = some a := by rw [z]; rfl
    exact nodup_get r.nd h h0)
  have nz : ¬ zz Z [F] a := fun z => z.elim (r.nz a (List.mem_of_getElem? h)) fun z => nF (by simpa using z)
  have k1 : ∀ (b : Addr) (u : HO), ¬ zz Z (F :: y) b → H b = some u → nt u → ¬ zz Z [F] b ∧ H b = some u := fun b u z q _ => ⟨fun w => z (w.elim .inl fun w => .inr (by simp at w; simp [w])), q⟩
  simp only [vw] at e
  cases ho : o[k]? with
  | none => rw [ho] at e; cases e
  | some x =>
    rw [ho] at e
    have p := r.ob k a x h ho
    cases x with
    | l ds => cases e; obtain ⟨xs, p1, p2⟩ := p; exact .lst nz p1 (p2.mono k1)
    | k ps => cases e; obtain ⟨xs, p1, p2⟩ := p; exact .dct nz (.inl p1) (p2.mono k1)
    | r ks => cases e
    | g ps => cases e
theorem outB {Z : Zs} {F : Addr} {y : List Addr} {o : List MO} {H : Hp} (r : Rob Z (F :: y) o H) : ∀ {vs : List V} {xs : List (D ⊕ Nat)} {ds : List D}, RvB Z (F :: y) H vs xs → not0 xs = true → tB o xs = some ds → RpA (zz Z [F]) H vs ds
  | _, _, _, .nil, _, e => by simp only [tB] at e; cases e; exact .nil
  | _, _, _, .d h t, n, e => by
    simp only [tB] at e
    split at e
    · rename_i ds hd
      cases e
      exact .cons (h.mono fun a u z q _ => ⟨fun w => z (w.elim .inl fun w => .inr (by simp at w; simp [w])), q⟩) (outB r t (by simpa [not0] using n) hd)
    · cases e
  | _, _, _, .m (k := k) hm t, n, e => by
    simp only [tB] at e
    simp only [not0, Bool.and_eq_true, Bool.not_eq_true'] at n
    split at e
    · rename_i d ds hd hr
      cases e
      exact .cons (out0 r hm (fun z => by rw [z] at n; exact absurd n.1 (by decide)) hd) (outB r t n.2 hr)
    · cases e
theorem outG {Z : Zs} {F : Addr} {y : List Addr} {o : List MO} {H : Hp} (r : Rob Z (F :: y) o H) {v : V} {sv : SV} {d : D} (h : Rv Z (F :: y) H v sv) (e : vwG o sv = some d) : Rp (zz Z [F]) H v d := by
  cases sv with
  | d x => cases e
  | w u => cases e
  | q _ _ => cases e
  | m k =>
    simp only [vwG] at e
    split at e
    · cases e
    · rename_i hk
      obtain ⟨a, q, rfl⟩ := h
      exact out0 r q (fun z => hk (by rw [z]; rfl)) e
  | t xs =>
    simp only [vwG] at e
    split at e
    · rename_i hn
      obtain ⟨ds, h1, rfl⟩ := Option.map_eq_some_iff.mp e
      obtain ⟨a, vs, rfl, z, g, rb⟩ := h
      exact .tup (fun w => z (w.elim .inl fun w => .inr (by simp at w; simp [w]))) (g.imp id fun y => absurd y.1 Bool.false_ne_true) (outB r rb hn h1)
    · cases e
def flat2 (fo : MO) (r : Option (D × MO)) : Option (D × MO) := match r with
  | some (d, fo') => if (flat fo && flat fo') = true then some (d, fo') else none
  | none => none
def runF (N : Nat) (m : SM) : Fun2 := fun fo ds => flat2 fo (retF (m ⟨st0 N (.m 0 :: ds.map .d), [fo]⟩))
theorem flat2_inv {fo : MO} {r : Option (D × MO)} {d : D} {fo' : MO} (h : flat2 fo r = some (d, fo')) : r = some (d, fo') ∧ flat fo = true ∧ flat fo' = true := by
  unfold flat2 at h
  split at h
  · split at h
    · rename_i hc
      rw [Bool.and_eq_true] at hc
      cases h
      exact ⟨rfl, hc⟩
    · cases h
  · cases h
def FlatF (f : Fun2) : Prop := ∀ fo ds d fo', f fo ds = some (d, fo') → flat fo = true ∧ flat fo' = true
theorem flatF_run {N : Nat} {m : SM} : FlatF (runF N m) := fun _ _ _ _ h => (flat2_inv h).2
theorem flat2_kk {a b : List (Key × D)} {d : D} : flat2 (.k a) (some (d, .k b)) = some (d, .k b) := rfl
theorem flat2_eq {fo : MO} {r : Option (D × MO)} {d : D} {fo' : MO} (h : r = some (d, fo')) (h1 : flat fo = true) (h2 : flat fo' = true) : flat2 fo r = some (d, fo') := by
  subst h
  simp only [flat2, h1, h2, Bool.and_self, if_true]
theorem rvA_dats' {Z : Zs} {M : List Addr} {H : Hp} : ∀ {vs : List V} {ds : List D}, RpA (zz Z M) H vs ds → RvA Z M H vs (ds.map .d)
  | _, _, .nil => .nil
  | _, _, .cons h r => .cons h (rvA_dats' r)
theorem Ro.mono {Z Z' : Zs} {M M' : List Addr} {H : Hp} {a : Addr} {o : MO} (k : ∀ b, zz Z' M' b → zz Z M b) (h : Ro Z M H a o) (fl : flat o = true) : Ro Z' M' H a o := by
  have k' : ∀ (b : Addr) (u : HO), ¬ zz Z M b → H b = some u → nt u → ¬ zz Z' M' b ∧ H b = some u := fun b u z q _ => ⟨fun y => z (k b y), q⟩
  cases o with
  | l ds => obtain ⟨xs, q, r⟩ := h; exact ⟨xs, q, r.mono k'⟩
  | k ps => obtain ⟨xs, q, r⟩ := h; exact ⟨xs, q, r.mono k'⟩
  | r ps => cases fl
  | g ps => cases fl
theorem Rp.less {Z Z' : Zs} {H : Hp} {v : V} {d : D} (k : ∀ b, Z' b → Z b) (h : Rp Z H v d) : Rp Z' H v d := h.mono fun b u z q _ => ⟨fun y => z (k b y), q⟩
theorem RpA.less {Z Z' : Zs} {H : Hp} {v : List V} {d : List D} (k : ∀ b, Z' b → Z b) (h : RpA Z H v d) : RpA Z' H v d := h.mono fun b u z q _ => ⟨fun y => z (k b y), q⟩
section
variable {P : Program} {w : World} {K : PySem.W.Frag} {mg : Str → Option Value} {base : Heap} {x qual : Str} {params : Arguments} {body : List Stmt} {scope : Scope} {dvs : List V} {kws : List (Str × V)} {f : Addr} {fd : FuncData}
theorem def_feed {N ps : List Str} {k : Nat} {t : TS} {m : SM} (F : FunD K x qual params body scope dvs kws f fd) (sc : FnScope N ps scope)
    (reading : ∀ (cdv : Value), fd.code = cdv → ∀ (A : Around) (outer : List Env) (s : Shared) (H : Hp) (E : XK), GOk A → Room k (A.deeper (envOfC qual scope s.heap.objs.size f cdv)) → PSs (cxOf CX0 P w K mg base N qual scope f cdv A outer s H E) body t)
    (hm : SnS t m) : FnG P w K mg base CX0 (k + 1) f fd ps (spF ps.length (runF N.length m)) := by
  refine fnG_ok F sc (fun vs H Q E h => ?_) (fun cdv hv A outer s H vs Q E hg hr h => ⟨t, reading cdv hv A outer s H E hg hr, ?_⟩)
  · obtain ⟨Z, F', rest, fo, ds, d, fo', rfl, _, _, _, r, hl, _⟩ := h
    rw [List.length_cons, r.length, hl]
  · obtain ⟨Z, F', rest, fo, ds, d, fo', rfl, hz, nz, ro, r, hl, hf, q⟩ := h
    unfold runF at hf
    obtain ⟨hf, fl1, fl2⟩ := flat2_inv hf
    unfold retF at hf
    have rob : Rob Z [F'] [fo] H := ⟨by simp, hz.z, by simpa using nz, rfl, fun k a x e1 e2 => by
      cases k with
      | zero => simp at e1 e2; subst e1; subst e2; exact ro
      | succ k => simp at e1, hz.t⟩
    have rv0 : RvA Z [F'] H (.ref F' :: rest) (.m 0 :: ds.map .d) := .cons ⟨F', rfl, rfl⟩ (rvA_dats' r)
    have rel := st0_rel (N := N) rob rv0
    have fin : ∀ {M' : List Addr} {H' : Hp} {o' : List MO} {fo2 : MO} {l : List MO}, Ext [F'] H M' H' → Rob Z M' o' H' → o' = fo2 :: l → flat fo2 = true → Kp F' H H' ∧ Ro Z [F'] H' F' fo2 ∧ ∀ b, zz Z [F'] b → zz Z M' b := by
      intro M' H' o' fo2 l e rb eo fl
      obtain ⟨⟨y, hy⟩, ou, kp, dm, tb⟩ := e
      have k1 : ∀ b, zz Z [F'] b → zz Z M' b := fun b z => z.elim .inl fun z => .inr (by rw [hy]; exact List.mem_append_left _ z)
      refine ⟨⟨fun a o ne e t => kp a o (by simpa using ne) e t, tb, dm⟩, Ro.mono k1 (rb.ob 0 F' fo2 (by rw [hy]; rfl) (by rw [eo]; rfl)) fl, k1⟩
    split at hf
    · rename_i v fo2 l em
      cases hf
      refine hm Z [F'] _ _ H rel _ em _ fun M' u H' e r' rv => ?_
      obtain ⟨a1, a2, a3⟩ := fin e r' rfl fl2
      exact q u H' a1 a2 (Rp.less a3 rv)
    · rename_i v fo2 l _ em
      split at hf
      · rename_i d' hg
        cases hf
        refine hm Z [F'] _ _ H rel _ em _ fun M' u H' e r' rv => ?_
        obtain ⟨⟨y, hy⟩, _⟩ := id e
        obtain ⟨a1, a2, a3⟩ := fin e r' rfl fl2
        subst hy
        exact q u H' a1 a2 (outG (F := F') (y := y) r' rv hg)
      · cases hf
    · rename_i s2 fo2 l em
      cases hf
      refine hm Z [F'] _ _ H rel _ em _ fun M' u H' e r' => ?_
      obtain ⟨a1, a2, a3⟩ := fin e r'.r rfl fl2
      exact q .non H' a1 a2 .non
    · cases hf
end
def mCallF (n : Nat) (f : Fun2) (a : AM) : EM := fun s => match a s with
  | some (.m k :: xs, o1) => (match o1[k]?, dats xs with
    | some fo, some ds => if ds.length + 1 = n then (match f fo ds with
      | some (d, fo') => some (.d d, o1.set k fo')
      | none => none) else none
    | _, _ => none)
  | _ => none
theorem sn_callF {n : Nat} {f : Fun2} {E : XK} {ta : TA} {a : AM} (ha : SnA ta a) (hfl : FlatF f := by exact flatF_run) : Sn (tCall (spF n f) [] E ta) (mCallF n f a) := by
  intro Z M s σ H h w o' e Q q
  unfold mCallF at e
  split at e
  · rename_i k xs o1 ea
    refine ha Z M s σ H h _ _ ea _ fun M1 vs H1 e1 h1 r1 => ?_
    split at e
    · rename_i fo ds hk hd
      split at e
      · rename_i hn
        split at e
        · rename_i d fo' hf
          cases e
          obtain ⟨fl1, fl2⟩ := hfl fo ds d fo' hf
          cases r1 with
          | cons hv ht =>
            obtain ⟨F, hF, rfl⟩ := hv
            have FM : F ∈ M1 := List.mem_of_getElem? hF
            show spF n f (_ ++ []) H1 Q E
            rw [List.append_nil]
            -- all that is hidden, but the object itself
            have eq1 : ∀ b, zz (fun a => Z a ∨ (a ∈ M1 ∧ a ≠ F)) [F] b → zz Z M1 b := fun b z => by
              rcases z with (z | z) | z
              · exact .inl z
              · exact .inr z.1
              · simp only [List.mem_singleton] at z; subst z; exact .inr FM
            have eq2 : ∀ b, zz Z M1 b → zz (fun a => Z a ∨ (a ∈ M1 ∧ a ≠ F)) [F] b := fun b z => by
              rcases z with z | z
              · exact .inl (.inl z)
              · by_cases hb : b = F
                · exact .inr (by simp [hb])
                · exact .inl (.inr ⟨z, hb⟩)
            refine ⟨fun a => Z a ∨ (a ∈ M1 ∧ a ≠ F), F, _, fo, ds, d, fo', rfl, ⟨fun b z => h1.r.zzh b (z.elim .inl fun z => .inr z.1), h1.r.tb⟩, ?_, Ro.mono eq1 (h1.r.ob k F fo hF hk) fl1, RpA.less eq1 (dats_ok ht hd), hn, hf, fun v H' kp ro rv => ?_⟩
            · rintro (z | z)
              · exact h1.r.nz F FM z
              · exact z.2 rfl
            have dom : ∀ b, Has H1 b → Has H' b := kp.dom
            have ex : Ext M1 H1 M1 H' := ⟨⟨[], by simp⟩, fun b hb _ => hb, fun b o hb e t => kp.at_ b o (fun z => hb (z ▸ FM)) e t, dom, kp.tab⟩
            have ex2 : Ex2 M1 H1 M1 H' := ⟨ex, rfl⟩
            have rob2 : Rob Z M1 (o1.set k fo') H' := by
              refine ⟨h1.r.nd, fun b hb => dom b (h1.r.zs b hb), h1.r.nz, ?_, fun j b y h2 h3 => ?_, kp.tab h1.r.tb⟩
              · rw [List.length_set]; exact h1.r.len
              · by_cases hj : j = k
                · subst hj
                  rw [hF] at h2
                  cases h2
                  have hl : j < o1.length := (List.getElem?_eq_some_iff.mp hk).1
                  rw [List.getElem?_set_self hl] at h3
                  cases h3
                  exact Ro.mono eq2 ro fl2
                · rw [List.getElem?_set_ne (Ne.symm hj)] at h3
                  have nb : b ≠ F := fun z => hj (nodup_get h1.r.nd h2 (z ▸ hF))
                  exact (h1.r.ob j b y h2 h3).ext ex fun o z t => kp.at_ b o nb z t
            exact q M1 v H' (e1.trans ex2) (h1.ext_on (o := o1.set k fo') ex rob2) (Rp.less eq2 rv)
        · cases e
      · cases e
    · cases e
  · cases e
end
end AP

namespace AP
noncomputable section
open PySem PySem.Spec PyProof.Rows L2 RZ
variable [Tbls] [Gd]
abbrev kC : Key := .inr (Str.ofString "cells")
abbrev kN : Key := .inr (Str.ofString "next")
abbrev kL : Key := .inr (Str.ofString "left")
abbrev kW : Key := .inr (Str.ofString "drawn")
def rIntA : List V → Hp → VK → Prop := fun xs H Q => (∃ i, xs = [.int i] ∧ Q (.int i) H) ∨ ∃ k, xs = [.bl k] ∧ Q (.int (if k then 1 else 0)) H
def Stays (H H' : Hp) : Prop := ∀ a o, H a = some o → H' a = some o
theorem Stays.trans {H H1 H2 : Hp} (a : Stays H H1) (b : Stays H1 H2) : Stays H H2 := fun x o h => b x o (a x o h)
theorem Stays.upd {H : Hp} {p : Addr} {o : HO} (h : H p = none) : Stays H (upd H p o) := fun a u e => by
  rw [upd_ne (ne_of_none e h)]; exact e
def spLaw (K : PySem.W.Frag) : Sp := fun vs H Q _ => ∃ (a : Addr) (ns : List Int), vs = [.ref a] ∧ LamX.Tabs Tbls.T H ∧ SqL K H a (ns.map V.int) ∧ ns.length ≤ 63 ∧ ∀ H', Q (.bl true) H'
section
variable {P : Program} {w : World} {K : PySem.W.Frag} {mg : Str → Option Value} {base : Heap} {x qual : Str} {params : Arguments} {body : List Stmt} {scope : Scope} {dvs : List V} {kws : List (Str × V)} {f : Addr} {fd : FuncData}
end
abbrev noTbls : Tbls := ⟨[]⟩
omit [Tbls] in
omit [Tbls] in
end
end AP

namespace AP
noncomputable section
open PySem PySem.Spec PyProof.Rows L2 RZ
variable [Tbls] [Gd]
def gRepr : List D → Option D
  | [d] => if (noD d && PyData.showable d && !d.hasDict && decide (d.shown.length ≤ 100000) && decide (d.depth ≤ 60)) = true then some (.str d.shown) else none
  | _ => none
theorem rc_repr {K : PySem.W.Frag} : RCD (rRepr K) gRepr := by
  intro Z H hz vs ds d r e Q q
  unfold gRepr at e
  split at e
  · rename_i x
    split at e
    · rename_i h
      cases e
      simp only [Bool.and_eq_true, decide_eq_true_eq, Bool.not_eq_true'] at h
      obtain ⟨⟨⟨⟨h0, h1⟩, h2⟩, h3⟩, h4⟩ := h
      cases r with
      | cons hv t =>
        cases t
        exact ⟨_, x, rfl, hv.dp h0, h1, h2, small_line h3, h4, q _ H (New.refl H) (.str _)⟩
    · cases e
  · cases e
def gMul : D → D → Option D := g2I (fun i j => (decide (-(2 ^ 64) < i) && decide (i < 2 ^ 64)) || (decide (-(2 ^ 64) < j) && decide (j < 2 ^ 64))) fun i j => .int (i * j)
theorem r2_mul : R2D (rI CMul fun i j => .int (i * j)) gMul := r2_I fun i j h => by
  simp only [Bool.or_eq_true, Bool.and_eq_true, decide_eq_true_eq] at h
  exact h
def gDiv : D → D → Option D := g2I (fun _ j => decide (0 < j) && decide (j < 1073741824)) fun i j => .int (i / j)
theorem r2_div : R2D (rI CDiv fun i j => .int (i / j)) gDiv := r2_I fun i j h => by
  simp only [Bool.and_eq_true, decide_eq_true_eq] at h
  exact h
def gMod : D → D → Option D := g2I (fun _ j => decide (0 < j)) fun i j => .int (i % j)
theorem r2_mod : R2D (rI (fun _ j => 0 < j) fun i j => .int (i % j)) gMod := r2_I fun i j h => by
  simpa using h
def gPow : D → D → Option D := g2I (fun i j => decide (0 ≤ j) && decide (j ≤ 1000000) && decide (i.natAbs < 2 ^ 64)) fun i j => .int (i ^ j.toNat)
theorem r2_pow : R2D (rI CPow fun i j => .int (i ^ j.toNat)) gPow := r2_I fun i j h => by
  simp only [Bool.and_eq_true, decide_eq_true_eq] at h
  exact ⟨h.1.1, h.1.2, h.2⟩
def gNeg : D → Option D
  | .int i => some (.int (-i))
  | _ => none
theorem r1_neg : R1D (rU fun i => .int (-i)) gNeg := by
  intro Z H hz v1 d1 d r1 e Q q
  unfold gNeg at e
  split at e
  · cases e
    cases r1
    exact ⟨_, rfl, q _ H (New.refl H) (.int _)⟩
  · cases e
def mParO (i j : Nat) (a : EM) (m : NM) : SM := fun s => match a s with
  | none => none
  | some (x, o1) => match m (s.on o1) with
    | none => none
    | some (r, o2) => some (.nx ⟨sS (some (.m o2.length)) (sS (some x) s.σ i) j, o2 ++ [r]⟩)
theorem ss_parO {i j : Nat} {ta tb : TE} {a : EM} {m : NM} (ha : Sn ta a) (hm : SnN tb m) : SnS (tPar i j (tCons ta (tCons tb tNil))) (mParO i j a m) := by
  intro Z M s σ H h out e E f
  unfold mParO at e
  split at e
  · cases e
  · rename_i x o1 ea
    refine ha Z M s σ H h _ _ ea _ fun M1 v1 H1 ⟨e1, m1⟩ h1 r1 => ?_
    split at e
    · cases e
    · rename_i r o2 er
      cases e
      refine hm Z M1 (s.on o1) σ H1 h1 _ _ er _ fun M2 p H2 hl e2 h2 => ?_
      refine ⟨v1, .ref p, rfl, ?_⟩
      have hlen : o2.length = M2.length := by
        have z := h2.r.len
        simp at z
        exact z
      have rx : Rv Z (M2 ++ [p]) H2 v1 x := e2.rv r1
      have rp : Rv Z (M2 ++ [p]) H2 (.ref p) (.m o2.length) := ⟨p, by rw [hlen, List.getElem?_append_right (Nat.le_refl _)]; simp, rfl⟩
      exact f (M2 ++ [p]) _ H2 (e1.trans e2) ((h2.put (i := i) rx).put (i := j) rp)
def mParOO (i j : Nat) (m n : NM) : SM := fun s => match m s with
  | none => none
  | some (r, o1) => match n (s.on (o1 ++ [r])) with
    | none => none
    | some (r2, o2) => some (.nx ⟨sS (some (.m o2.length)) (sS (some (.m o1.length)) s.σ i) j, o2 ++ [r2]⟩)
theorem ss_parOO {i j : Nat} {ta tb : TE} {m n : NM} (ha : SnN ta m) (hm : SnN tb n) : SnS (tPar i j (tCons ta (tCons tb tNil))) (mParOO i j m n) := by
  intro Z M s σ H h out e E f
  unfold mParOO at e
  split at e
  · cases e
  · rename_i r o1 ea
    refine ha Z M s σ H h _ _ ea _ fun M1 p1 H1 hl1 e1 h1 => ?_
    split at e
    · cases e
    · rename_i r2 o2 er
      cases e
      refine hm Z (M1 ++ [p1]) (s.on (o1 ++ [r])) σ H1 h1 _ _ er _ fun M2 p H2 hl e2 h2 => ?_
      refine ⟨.ref p1, .ref p, rfl, ?_⟩
      have hlen1 : o1.length = M1.length := by
        have z := h1.r.len
        simp at z
        exact z
      have hlen : o2.length = M2.length := by
        have z := h2.r.len
        simp at z
        exact z
      have rx0 : Rv Z (M1 ++ [p1]) H1 (.ref p1) (.m o1.length) := ⟨p1, by rw [hlen1, List.getElem?_append_right (Nat.le_refl _)]; simp, rfl⟩
      have rx : Rv Z (M2 ++ [p]) H2 (.ref p1) (.m o1.length) := e2.rv rx0
      have rp : Rv Z (M2 ++ [p]) H2 (.ref p) (.m o2.length) := ⟨p, by rw [hlen, List.getElem?_append_right (Nat.le_refl _)]; simp, rfl⟩
      exact f (M2 ++ [p]) _ H2 (e1.trans e2) ((h2.put (i := i) rx).put (i := j) rp)
section
variable {J : It} {n : Nat} {G : Hp → Prop} {Y : Nat → Hp → V → Hp → Prop}
theorem dc_itA (w : L2.Walk J n G Y) {g : TG} {tt : TT} {tk tv : TE} {us : List Nat} {τ : L2.St} {h1 : Hp} {C : Addr} {Fn : Hp → Prop} (Ti : Nat → Hp → Prop) (t0 : Ti 0 (upd h1 C (.dK []))) (tG : ∀ i h, i ≤ n → Ti i h → G h)
    (step : ∀ i x h h', i < n → Ti i h → Y i h x h' → g x (wipe τ us) h' fun τ2 h2 => wipe τ2 us = wipe τ us ∧ tt τ2 h2 fun b h3 =>
      if b = true then tk τ2 h3 fun y h4 => tv τ2 h4 fun z h5 => ∃ kvs k, y = kV k ∧ h5 C = some (.dK kvs) ∧ kvs.length < sizeLine ∧ Ti (i + 1) (upd h5 C (.dK (putK kvs k z))) else Ti (i + 1) h3) (tn : ∀ h, Ti n h → Fn h) :
    ∃ U : Nat → Nat → Hp → Prop, (∃ m, U 0 m (upd h1 C (.dK []))) ∧ ∀ i m h, U i m h →
      (J.stop i h ∧ Fn h) ∨ (J.go i h ∧ ∃ Nx : Hp → Prop, (∀ h', Nx h' → ∃ m', m' < m ∧ U (i + 1) m' h') ∧ ∀ x h', J.yld i h x h' → g x (wipe τ us) h' fun τ2 h2 => wipe τ2 us = wipe τ us ∧ tt τ2 h2 fun b h3 =>
        if b = true then tk τ2 h3 fun y h4 => tv τ2 h4 fun z h5 => ∃ kvs k, y = kV k ∧ h5 C = some (.dK kvs) ∧ kvs.length < sizeLine ∧ Nx (upd h5 C (.dK (putK kvs k z))) else Nx h3) := by
  refine ⟨fun i left h => left = n - i ∧ i ≤ n ∧ Ti i h, ⟨n, (Nat.sub_zero n).symm, Nat.zero_le _, t0⟩, ?_⟩
  rintro i left h ⟨rfl, hle, p⟩
  have gh := tG i h hle p
  rcases Nat.lt_or_ge i n with hn | hn
  · exact .inr ⟨w.goes i h hn gh, Ti (i + 1), fun h' p' => ⟨n - (i + 1), by omega, rfl, hn, p'⟩, fun x h' y => step i x h h' hn p (w.yields i h x h' hn gh y)⟩
  · obtain rfl : i = n := Nat.le_antisymm hle hn
    exact .inl ⟨w.stops h gh, tn h p⟩
end
def dcLoop (k : Nat) (g : GM) (c : TM) (ek ev : EM) (τ : List (Option SV)) : List D → List MO → Option (List MO)
  | [], o => some o
  | d :: r, o => match g (.d d) ⟨τ, o⟩ with
    | none => none
    | some s2 => match c s2 with
      | none => none
      | some (false, o3) => dcLoop k g c ek ev τ r o3
      | some (true, o3) => match ek (s2.on o3) with
        | some (.d y, o4) => (match ev (s2.on o4) with
          | some (.d x, o5) => (match toKey y, o5[k]? with
            | some key, some (.k ps) => if ps.length < 100000 ∧ (ps.map (·.1)).Nodup then dcLoop k g c ek ev τ r (o5.set k (.k (putD ps key x))) else none
            | _, _ => none)
          | _ => none)
        | _ => none
def mDc (im : IM) (g : GM) (c : TM) (ek ev : EM) (vs : List Nat) : NM := fun s => match im s with
  | none => none
  | some (items, o1) => match dcLoop o1.length g c ek ev (wipeS s.σ vs) items (o1 ++ [.k []]) with
    | none => none
    | some oF => (match oF[o1.length]? with
      | some (.k ps) => some (.k ps, oF.take o1.length)
      | _ => none)
theorem sn_dc {wi : TI} {tg : TG} {tt : TT} {tk te : TE} {vs : List Nat} {im : IM} {g : GM} {c : TM} {ek e : EM} (hi : SnI wi im) (hg : SnG tg g) (gk : GK vs tg) (hc : SnT tt c) (hk : Sn tk ek) (he : Sn te e) : SnN (tDc wi tg tt tk te vs) (mDc im g c ek e vs) := by
  intro Z M s σ H h r o' ev Q q
  unfold mDc at ev
  split at ev
  · cases ev
  · rename_i items o1 ei
    split at ev
    · cases ev
    · rename_i oF el
      split at ev
      · rename_i acc hacc
        cases ev
        refine hi Z M s σ H h items o1 ei _ fun J H1 e1 h1 src => ?_
        obtain ⟨G, Y, w, hG, hY⟩ := src
        intro Dl hD
        have k1 : o1.length = M.length := h1.r.len
        obtain ⟨n1, n2⟩ := own_new (ob := .dK []) (r := .k []) h1 hD ⟨[], rfl, .nil⟩
        have w1 := rel_wipe n1 vs
        have atD : ∀ M2 : List Addr, M2 = M ++ [Dl] → M2[o1.length]? = some Dl := fun M2 e => by
          rw [e, k1, List.getElem?_append_right (Nat.le_refl _)]; simp
        refine dc_itA w (fun i H2 => ∃ o2, Ext M H1 (M ++ [Dl]) H2 ∧ Rel Z (M ++ [Dl]) ⟨wipeS s.σ vs, o2⟩ (wipe σ vs) H2 ∧ dcLoop o1.length g c ek e (wipeS s.σ vs) (items.drop i) o2 = some oF)
          ⟨_, n2, w1, el⟩ (fun i H2 _ ⟨o2, x, _⟩ => hG _ H2 x) ?_ ?_
        · rintro i x H2 H3 hin ⟨o2, e2, h2, l2⟩ hy
          obtain ⟨nw, d, hd, rd⟩ := hY i H2 x H3 (M ++ [Dl]) e2 h2.r.zzd hin hy
          have edrop : items.drop i = d :: items.drop (i + 1) := by
            rw [List.drop_eq_getElem_cons hin]
            congr 1
            have z := List.getElem?_eq_getElem hin
            rw [hd] at z
            exact (Option.some.inj z).symm
          rw [edrop] at l2
          unfold dcLoop at l2
          split at l2
          · cases l2
          · rename_i s3 es
            refine gk.kept _ _ _ _ ?_
            refine hg Z _ _ _ H3 (h2.new nw) x (.d d) rd s3 es _ fun M4 σ4 H4 ⟨e4, m4⟩ h4 w4 => ?_
            subst m4
            rw [wipe_wipe σ vs vs fun _ z => z] at w4
            refine ⟨w4, ?_⟩
            have e24 : Ext M H1 (M ++ [Dl]) H4 := (e2.trans (Ext.new nw)).trans e4
            have back : ∀ {o5 : List MO} {H5 : Hp}, Ext (M ++ [Dl]) H4 (M ++ [Dl]) H5 → Rob Z (M ++ [Dl]) o5 H5 → Rel Z (M ++ [Dl]) ⟨wipeS s.σ vs, o5⟩ (wipe σ vs) H5 := fun {o5 H5} e5 r5 =>
              (h2.ext_on (o := o5) (((Ext.new nw).trans e4).trans e5) r5)
            split at l2
            · cases l2
            · rename_i o5 ec
              refine hc Z _ s3 σ4 H4 h4 _ _ ec _ fun M5 H5 ⟨e5, m5⟩ h5 => ?_
              subst m5
              rw [if_neg (by decide)]
              exact ⟨o5, e24.trans e5, back e5 h5.r, l2⟩
            · rename_i o5 ec
              refine hc Z _ s3 σ4 H4 h4 _ _ ec _ fun M5 H5 ⟨e5, m5⟩ h5 => ?_
              subst m5
              rw [if_pos rfl]
              split at l2
              · rename_i y6 o6 ek6
                refine hk Z _ (s3.on o5) σ4 H5 h5 _ _ ek6 _ fun M6 v6 H6 ⟨e6, m6⟩ h6 r6 => ?_
                subst m6
                split at l2
                · rename_i x7 o7 ee
                  refine he Z _ (s3.on o6) σ4 H6 h6 _ _ ee _ fun M7 v7 H7 ⟨e7, m7⟩ h7 r7 => ?_
                  subst m7
                  split at l2
                  · rename_i key ps hkey hps
                    split at l2
                    · rename_i hl
                      obtain ⟨kvs, hx, rx⟩ := h7.r.ob o1.length Dl _ (atD _ rfl) hps
                      have hv6 : v6 = kV key := key_rt (Rp.rt r6) hkey
                      subst hv6
                      have hlen : kvs.length = ps.length := by rw [rx.length]; simp [kvD]
                      obtain ⟨g1, g2⟩ := own_mut (ob := .dK (putK kvs key v7)) (r := .k (putD ps key x7)) h7 (atD _ rfl) ⟨_, rfl, rpK_put r7 rx hl.2⟩
                      exact ⟨kvs, key, rfl, hx, Nat.lt_of_lt_of_le (by rw [hlen]; exact hl.1) (small_line (Nat.le_refl _)), _, (((e24.trans e5).trans e6).trans e7).trans g2, back (((e5.trans e6).trans e7).trans g2) g1.r, l2⟩
                    · cases l2
                  · cases l2
                · cases l2
              · cases l2
        · rintro H2 ⟨o2, e2, h2, l2⟩
          rw [List.drop_length] at l2
          unfold dcLoop at l2
          cases l2
          have hl : oF.length = o1.length + 1 := by
            have z := h2.r.len
            simp at z
            rw [k1]; exact z
          have eo : oF.take o1.length ++ [.k acc] = oF := by
            have z := List.take_append_getElem (show o1.length < oF.length by omega)
            have z2 := List.getElem?_eq_getElem (show o1.length < oF.length by omega)
            rw [hacc] at z2
            rw [Option.some.inj z2, z, List.take_of_length_le (by omega)]
          refine q M Dl H2 rfl (e1.trans e2) ?_
          rw [eo]
          exact h.ext_on (o := oF) (e1.trans e2) h2.r
      · cases ev
end
end AP

namespace AP
noncomputable section
open PySem PySem.Spec PyProof.Rows L2 RZ
variable [Tbls] [Gd]
section
variable {X : Cx}
theorem ps_setDc {i : Nat} {y : Str} {py : Pos} {kx vx tg iter : Expr} {ifs : List Expr} {scope : Scope} {own : List (Str × Nat)} {cpos spos : Pos} {wi : TI} {g : TG} {tt : TT} {tk tv : TE}
    (hc : X.calm = true) (nd : X.N.Nodup) (hy : X.N[i]? = some y) (yl : X.env.scope.names.lookup y = some .local)
    (sw : swapsWith (.DictComp kx vx [⟨tg, iter, ifs, 0⟩] scope cpos) (some (.Name y py)) spos.line X.env = pure true) (hi : PI X tg iter wi) (ok : BlkOk X.N X.env.scope scope own)
    (hg : ∀ (s : Shared) (h : Hp) (C : Addr) (cl : List (Str × Addr)) (fp : List Addr), PG (X.blk s h scope (compEnvC scope cl C X.env) fp) tg g)
    (ht : ∀ (s : Shared) (h : Hp) (C : Addr) (cl : List (Str × Addr)) (fp : List Addr), PTs (X.blk s h scope (compEnvC scope cl C X.env) fp) ifs tt)
    (hk : ∀ (s : Shared) (h : Hp) (C : Addr) (cl : List (Str × Addr)) (fp : List Addr), PE (X.blk s h scope (compEnvC scope cl C X.env) fp) kx tk)
    (he : ∀ (s : Shared) (h : Hp) (C : Addr) (cl : List (Str × Addr)) (fp : List Addr), PE (X.blk s h scope (compEnvC scope cl C X.env) fp) vx tv)
    (hs : ∀ x, foldedSetIterable iter X.env x = pure x := by intro _; rfl) :
    PS X (.Assign [.Name y py] (.DictComp kx vx [⟨tg, iter, ifs, 0⟩] scope cpos) spos) (tAsg (tDc wi g tt tk tv (own.map (·.2))) (gName i)) := by
  refine ⟨fun pins s σ H D I h => ?_⟩
  rw [exec_Assign_Name_used _ _ _ _ sw]
  refine wpAny_bind (wpAny_standAt (wpAny_bind ?_))
  show wpAny _ X.A (do let _ ← comprehension (.DictComp kx vx [⟨tg, iter, ifs, 0⟩] scope cpos) scope X.env (firstIterPos [⟨tg, iter, ifs, 0⟩] cpos) newDict false (eval iter X.env) (some (assign (.Name y py) X.env))) _ _ s
  have h' : tDc wi g tt tk tv (own.map (·.2)) σ H (fun x H1 => gName i x σ H1 D.nx) := h
  refine wpAny_bind (thn (dc_core (Qf := fun _ s' => SP X pins D .next s') hc nd I hi ok hg ht hk he hs h' fun L C s' m H' I' q hn f => ?_) fun _ s' hq => wpAny_pure (wpAny_pure hq))
  show wpAny _ _ (assign (.Name y py) X.env (.ref L)) _ _ _
  refine wpAny_assign_Name (store_ok2 (v := V.ref L) I' nd hy (.inl yl) rfl (fun s2 I2 z => ?_) (.inr yl))
  obtain ⟨a, sb, ha⟩ := z
  obtain ⟨g0, g1, g2, g3, g4, g5⟩ := f
  have ne : C ≠ a := ha.elim (fun z => by rw [z]; exact g1) fun z e => g4 y a z e.symm
  exact ⟨m, hn.sameBut sb ne, fun h3 sb3 => ⟨_, H', I2.turned (t' := s2.toks) (fun b o hb e => (sb3.2 b hb).trans e) g0 g1 g3 g4 g5, q⟩⟩
theorem swD_true {kx vx : Expr} {gs : List Comprehension} {scope : Scope} {cpos py : Pos} {y : Str} {l : Nat} {env : Env} (hk : env.scope.kind = .function) (hy : env.scope.names.lookup y = some .local) (hl : (py.line == cpos.line) = true)
    (ha : (scope.names.any fun (n, k) => n == y && (k == .local || k == .cell)) = false) : swapsWith (.DictComp kx vx gs scope cpos) (some (.Name y py)) l env = pure true := by
  have k1 : env.kindOf y = some .local := hy
  have k2 : env.blockKind = .function := by unfold Env.blockKind; rw [hk]; rfl
  unfold swapsWith
  simp only [k2, k1, ha, Expr.pos, hl]
  rfl
def rAddU (K : PySem.W.Frag) : R2 := fun x y H Q => rI0 (fun i j => .int (i + j)) x y H Q ∨ ((∃ i j, x = .str i ∧ y = .str j ∧ i.length + j.length ≤ sizeLine ∧ Q (.str (i ++ j)) H) ∨ (rCat x y H Q ∨ rCatF K x y H Q))
theorem op_addU : OpR X (binaryOp .Add) (rAddU X.K) := op_add.or (op_add_str.or (op_cat.or op_catF))
def gAddU (a b : D) : Option D := oel (g2I (fun _ _ => true) (fun i j => .int (i + j)) a b) (oel (gAddS a b) (oel (gAddL a b) (gAddT a b)))
theorem r2_addU {K : PySem.W.Frag} : R2D (rAddU K) gAddU := r2_I0.or (r2_addS.or (r2_addL.or r2_addT))
def rLtU : R2 := fun x y H Q => rI0 (fun i j => .bl (decide (i < j))) x y H Q ∨ ∃ i j, x = .str i ∧ y = .str j ∧ Q (.bl (decide (i.cps.toList < j.cps.toList))) H
theorem op_ltU : OpR X (compareOp .Lt) rLtU := op_lt.or op_lt_str
def gLtU (a b : D) : Option D := oel (g2I (fun _ _ => true) (fun i j => .bool (decide (i < j))) a b) (g2S (fun i j => some (.bool (decide (i.cps.toList < j.cps.toList)))) a b)
theorem r2_ltU : R2D rLtU gLtU := r2_B0.or r2_Sb
def rLeU : R2 := fun x y H Q => rI0 (fun i j => .bl (decide (i ≤ j))) x y H Q ∨ ∃ i j, x = .str i ∧ y = .str j ∧ Q (.bl (!decide (j.cps.toList < i.cps.toList))) H
theorem op_leU : OpR X (compareOp .LtE) rLeU := op_le.or op_le_str
def gLeU (a b : D) : Option D := oel (g2I (fun _ _ => true) (fun i j => .bool (decide (i ≤ j))) a b) (g2S (fun i j => some (.bool (!decide (j.cps.toList < i.cps.toList)))) a b)
theorem r2_leU : R2D rLeU gLeU := r2_B0.or r2_Sb
def rGtU : R2 := fun x y H Q => rI0 (fun i j => .bl (decide (j < i))) x y H Q ∨ ∃ i j, x = .str i ∧ y = .str j ∧ Q (.bl (decide (j.cps.toList < i.cps.toList))) H
theorem op_gtU : OpR X (compareOp .Gt) rGtU := op_gt.or op_gt_str
def gGtU (a b : D) : Option D := oel (g2I (fun _ _ => true) (fun i j => .bool (decide (j < i))) a b) (g2S (fun i j => some (.bool (decide (j.cps.toList < i.cps.toList)))) a b)
theorem r2_gtU : R2D rGtU gGtU := r2_B0.or r2_Sb
def rGeU : R2 := fun x y H Q => rI0 (fun i j => .bl (decide (j ≤ i))) x y H Q ∨ ∃ i j, x = .str i ∧ y = .str j ∧ Q (.bl (!decide (i.cps.toList < j.cps.toList))) H
theorem op_geU : OpR X (compareOp .GtE) rGeU := op_ge.or op_ge_str
def gGeU (a b : D) : Option D := oel (g2I (fun _ _ => true) (fun i j => .bool (decide (j ≤ i))) a b) (g2S (fun i j => some (.bool (!decide (i.cps.toList < j.cps.toList)))) a b)
theorem r2_geU : R2D rGeU gGeU := r2_B0.or r2_Sb
def rEqU (K : PySem.W.Frag) : R2 := fun x y H Q => rEq x y H Q ∨ rEqD K x y H Q
def rNeU (K : PySem.W.Frag) : R2 := fun x y H Q => rNe x y H Q ∨ rNeD K x y H Q
def rSub : R2 := rI0 fun i j => .int (i - j)
def gSub : D → D → Option D := g2I (fun _ _ => true) fun i j => .int (i - j)
theorem r2_sub : R2D rSub gSub := r2_I0
def rMul : R2 := rI CMul fun i j => .int (i * j)
def rDiv : R2 := rI CDiv fun i j => .int (i / j)
def rMod : R2 := rI (fun _ j => 0 < j) fun i j => .int (i % j)
def rPow : R2 := rI CPow fun i j => .int (i ^ j.toNat)
def rNeg : V → Hp → VK → Prop := rU fun i => .int (-i)
abbrev rTupA (K : PySem.W.Frag) : List V → Hp → VK → Prop := rTupleF K
def rLstA (K : PySem.W.Frag) : List V → Hp → VK → Prop := fun xs H Q => ∃ p ys, xs = [.ref p] ∧ (SqL K H p ys ∨ SqT K H p ys) ∧ ∀ l, H l = none → Q (.ref l) (upd H l (.lst ys))
theorem hu1 {k : Nat} {A : Around} (r : Room k A) : A.units + 1 < cLine := by have := r.un; omega
theorem hu64 {k : Nat} {A : Around} (r : Room k A) : A.units + 64 < cLine := by have := r.un; omega
theorem hu65 {k : Nat} {A : Around} (r : Room k A) : A.units + 65 < cLine := by have := r.un; omega
theorem op_eqU (hu : X.A.units + 64 < cLine) : OpR X (compareOp .Eq) (rEqU X.K) := op_eq.or (op_eqD hu)
theorem op_neU (hu : X.A.units + 64 < cLine) : OpR X (compareOp .NotEq) (rNeU X.K) := op_ne.or (op_neD hu)
theorem r2_eqU {K : PySem.W.Frag} : R2D (rEqU K) gEq := r2_eq
theorem r2_neU {K : PySem.W.Frag} : R2D (rNeU K) gNe := r2_ne
end
structure Cal (P : Program) (w : World) (K : PySem.W.Frag) (mg : Str → Option Value) (base : Heap) (x : Str) (k : Nat) (ps : List Str) (sp : Sp) (f : Addr) (fd : FuncData) : Prop where
  G : FnG P w K mg base CX0 k f fd ps sp
  m : mg x = some (.ref f)
  kp : PySem.W.keepIn K (.ref f) = true
  b : Binds K fd ps []
section
variable {X : Cx} {k j : Nat} {f : Addr} {fd : FuncData} {ps : List Str} {sp : Sp} {x : Str} {p pos : Pos} {e : Expr} {es : List Expr} {t : TA}
theorem pe_calC (C : Cal X.prog X.w X.K X.mg X.base x k ps sp f fd) (hg : GOk X.A) (hr : Room j X.A) (hj : k ≤ j) (hgl : Gl X x) (ha : PA X (e :: es) t) (hdb : (x == ("__debug__" : Str)) = false := by decide)
    (he : starEach (e :: es) X.env = (false, eval e X.env) :: starEach es X.env := by rfl) (hpl : (backTo pos (starEach es X.env)).any (·.1) = false := by rfl) :
    PE X (.Call (.Name x p) (e :: es) [] pos) (tCall sp [] E0 t) :=
  pe_callG C.G hg (hr.mono hj) hgl C.m C.kp C.b .nil pass0 ha hdb he hpl
theorem pe_calK {ix : List Nat} {kws : List Keyword} {tk : TA} {ks : List Str} (C : Cal X.prog X.w X.K X.mg X.base x k ps sp f fd) (hg : GOk X.A) (hr : Room j X.A) (hj : k ≤ j) (hgl : Gl X x)
    (hb : ∀ (s : Shared) (ws : List Value), (perm ix ws).length = ps.length → BindsTo s fd ⟨[], ks.zip ws⟩ (ps.zip (perm ix ws))) (hkw : PK X kws tk)
    (hall : (backToKw pos (keywordEach kws X.env)).all (·.1.isSome) = true := by rfl) (hks : (backToKw pos (keywordEach kws X.env)).filterMap (·.1) = ks := by rfl) (hdb : (x == ("__debug__" : Str)) = false := by decide)
    (hpl : ((backTo pos (starEach [] X.env)).any (·.1) || (backToKw pos (keywordEach kws X.env)).any (·.1.isNone)) = false := by rfl) :
    PE X (.Call (.Name x p) [] kws pos) (tCallP sp ix E0 tk) :=
  pe_callGk C.G hg (hr.mono hj) hgl C.m C.kp hb pass0 hkw hall hks hdb hpl
end
end
end AP

namespace AP
noncomputable section
open PySem PySem.Spec PyProof.Rows L2 RZ
variable [Tbls] [Gd]
def iAny (K : PySem.W.Frag) (te : TE) : TI := fun σ H R => iSeq K te σ H R ∨ iStr te σ H R
theorem pi_any {X : Cx} {tg e : Expr} {te : TE} (he : PE X e te) : PI X tg e (iAny X.K te) := pi_or (pi_or (pi_list he) (pi_tup he)) (pi_str he)
def mAnyI (a : EM) : IM := fun s => match mItems a s with
  | some r => some r
  | none => mSigns a s
theorem si_any {K : PySem.W.Frag} {te : TE} {a : EM} (ha : Sn te a) : SnI (iAny K te) (mAnyI a) := by
  intro Z M s σ H h items o' e R f
  unfold mAnyI at e
  split at e
  · rename_i r hr
    cases e
    exact .inl (si_seq ha Z M s σ H h items o' hr R f)
  · exact .inr (si_str ha Z M s σ H h items o' e R f)
theorem kw_of {K : PySem.W.Frag} {x qual : Str} {params : Arguments} {body : List Stmt} {scope : Scope} {kws : List (Str × V)} {f : Addr} {fd : FuncData} {ps ks : List Str} {ix : List Nat} (F : FunD K x qual params body scope [] kws f fd)
    (h : ∀ (u1 u2 u3 : Value) (a1 : Option Addr) (u4 u5 : Value) (ws : List Value), (perm ix ws).length = ps.length → bindArgs (PySem.W.fnOf x qual params body scope .none u1 u2 u3 a1 u4 u5) ⟨[], ks.zip ws⟩ = pure (ps.zip (perm ix ws)))
    (s : Shared) (ws : List Value) (hl : (perm ix ws).length = ps.length) : BindsTo s fd ⟨[], ks.zip ws⟩ (ps.zip (perm ix ws)) := by
  obtain ⟨_, _, dV, u1, u2, u3, a1, u4, u5, _, e, _, _, hd, _⟩ := F.ex
  subst e
  rcases hd with ⟨_, e⟩ | ⟨e, _⟩
  · subst e; exact .of_eq (h u1 u2 u3 a1 u4 u5 ws hl)
  · exact absurd rfl e
end
end AP

namespace AP
noncomputable section
open PySem PySem.Spec PyProof.Rows L2 RZ
variable [Tbls] [Gd]
def Turn1 (g : GM) (c : TM) (e : EM) (τ : List (Option SV)) (o : List MO) (d : D) (p : Bool) (v : D) : Prop :=
  ∃ s2 : S, g (.d d) ⟨τ, o⟩ = some s2 ∧ c s2 = some (p, o) ∧ (p = true → e (s2.on o) = some (.d v, o))
mutual
def wz : D → Nat
  | .str x => 10 * x.length + 2
  | .list xs => wzs xs + 6
  | .tuple xs => wzs xs + 6
  | d => d.shown.length
def wzs : List D → Nat
  | [] => 0
  | x :: xs => wz x + 2 + wzs xs
end
theorem lst_len : ∀ ts : List Str, (listText ts).length ≤ piled ts + 2
  | [] => by rw [listText_nil]; decide
  | t :: r => by
    unfold listText
    have e1 : textFrom 0 "[" (t :: r) = textFrom 1 (("[" : String) ++ ((if 0 > 0 then ", " else "" : String) : Str) ++ t) r := rfl
    rw [strLen_append, e1, textFrom_length_pos _ _ _ (by decide), strLen_append, strLen_append, piled_cons]
    have e2 : ((("[" : String) : Str)).length = 1 := rfl
    have e3 : ((("]" : String) : Str)).length = 1 := rfl
    have e4 : (((if 0 > 0 then ", " else "" : String) : Str)).length = 0 := rfl
    omega
theorem tup_len (ts : List Str) : (tupleText ts).length ≤ piled ts + 3 := by
  unfold tupleText
  rw [strLen_append, strLen_append]
  have e1 : ((("(" : String) : Str)).length = 1 := rfl
  have e3 : (((if ts.length == 1 then ",)" else ")" : String) : Str)).length ≤ 2 := by split <;> decide
  rw [e1]
  by_cases h : ts = []
  · subst h
    have e0 : (Str.join ", " []).length = 0 := rfl
    omega
  · have := join_length_add ts h
    omega
mutual
theorem shown_le : ∀ d : D, d.canLay0 = true → d.shown.length ≤ wz d
  | .none, _ => by simp only [wz]; exact Nat.le_refl _
  | .bool _, _ => by simp only [wz]; exact Nat.le_refl _
  | .int _, _ => by simp only [wz]; exact Nat.le_refl _
  | .str x, h => by
    simp only [PyData.shown, wz]
    refine StrLaws.reprText_len x fun c hc => ?_
    have h' : x.cps.all (· < 0x110000) = true := by simp only [PyData.canLay0] at h; exact h
    have := Array.all_eq_true'.mp h' c (Array.mem_def.mpr hc)
    have h2 : c < 0x110000 := by simpa using this
    exact Nat.lt_of_lt_of_le h2 (by decide)
  | .list xs, h => by
    have h' : PyData.canLayAll0 xs = true := by simpa [PyData.canLay0] using h
    simp only [PyData.shown, wz]
    have := shown_les xs h'
    have := lst_len (PyData.shownAll xs)
    omega
  | .tuple xs, h => by
    have h' : PyData.canLayAll0 xs = true := by simpa [PyData.canLay0] using h
    simp only [PyData.shown, wz]
    have := shown_les xs h'
    have := tup_len (PyData.shownAll xs)
    omega
  | .dict _, h => by simp [PyData.canLay0] at h
theorem shown_les : ∀ xs : List D, PyData.canLayAll0 xs = true → piled (PyData.shownAll xs) ≤ wzs xs
  | [], _ => by simp [PyData.shownAll, wzs, piled]
  | x :: xs, h => by
    have h' : x.canLay0 = true ∧ PyData.canLayAll0 xs = true := by simpa [PyData.canLayAll0] using h
    have h1 := shown_le x h'.1
    have h2 := shown_les xs h'.2
    simp only [PyData.shownAll, piled_cons, wzs]
    omega
end
mutual
theorem noD_of : ∀ d : D, d.canLay0 = true → noD d = true
  | .none, _ => by simp only [noD]
  | .bool _, _ => by simp only [noD]
  | .int _, _ => by simp only [noD]
  | .str _, _ => by simp only [noD]
  | .list xs, h => by simp only [noD]; exact noDs_of xs (by simpa [PyData.canLay0] using h)
  | .tuple xs, h => by simp only [noD]; exact noDs_of xs (by simpa [PyData.canLay0] using h)
  | .dict _, h => by simp [PyData.canLay0] at h
theorem noDs_of : ∀ xs : List D, PyData.canLayAll0 xs = true → noDs xs = true
  | [], _ => by simp only [noDs]
  | x :: xs, h => by
    have h' : x.canLay0 = true ∧ PyData.canLayAll0 xs = true := by simpa [PyData.canLayAll0] using h
    simp only [noDs, noD_of x h'.1, noDs_of xs h'.2, Bool.and_self]
end
theorem gRepr_ok {d : D} (h1 : d.canLay0 = true) (h2 : d.showable = true) (h3 : wz d ≤ 100000) (h4 : d.depth ≤ 60) : gRepr [d] = some (.str d.shown) := by
  have h5 : d.shown.length ≤ 100000 := Nat.le_trans (shown_le d h1) h3
  simp only [gRepr, noD_of d h1, h2, PyData.hasDict_of_canLay d h1, Bool.not_false, Bool.and_true, decide_eq_true h5, decide_eq_true h4, if_true]
theorem shp_of {d : D} (h1 : d.canLay0 = true) (h2 : d.depth ≤ 64) : shp d = true := by
  simp only [shp, SeqAt.shaped, noD_of d h1, h1, decide_eq_true h2, Bool.and_self]
end
end AP

namespace AP
noncomputable section
open PySem PySem.Spec PyProof.Rows L2 RZ
variable [Tbls] [Gd]
def fdl (c n l w : D) : List (Key × D) := [(kC, c), (kN, n), (kL, l), (kW, w)]
theorem toKey_kD (k : Key) : toKey (kD k) = some k := by cases k <;> rfl
theorem getP_kv {ps : List (Key × D)} {k : Key} : getP (kvD ps) k = (ps.find? fun p => decide (p.1 = k)).map (·.2) := by
  induction ps with
  | nil => rfl
  | cons p r ih =>
    show (if toKey (kD p.1) = some k then some p.2 else getP (kvD r) k) = _
    rw [toKey_kD, List.find?_cons]
    by_cases h : p.1 = k
    · rw [if_pos (by rw [h])]; simp [h]
    · rw [if_neg (fun e => h (Option.some.inj e)), ih]; simp [h]
end
end AP

namespace AP
noncomputable section
open PySem PySem.Spec PyProof.Rows L2 RZ
variable [Tbls] [Gd]
theorem cut_take {α : Type} (xs : List α) {k : Int} (h0 : 0 ≤ k) : cutD xs none (some k) = xs.take k.toNat := by
  obtain ⟨n, rfl⟩ := Int.eq_ofNat_of_zero_le h0
  unfold cutD
  rw [HT.sIx_none, List.drop_zero, show HT.sIx xs.length xs.length (some ((n : Nat) : Int)) = min n xs.length from HT.sIx_nat _ _ n, Nat.sub_zero]
  show xs.take (min n xs.length) = xs.take n
  rw [List.take_eq_take_iff]; omega
theorem cut_drop {α : Type} (xs : List α) {k : Int} (h0 : 0 ≤ k) : cutD xs (some k) none = xs.drop k.toNat := by
  obtain ⟨n, rfl⟩ := Int.eq_ofNat_of_zero_le h0
  unfold cutD
  rw [HT.sIx_none, show HT.sIx xs.length 0 (some ((n : Nat) : Int)) = min n xs.length from HT.sIx_nat _ _ n]
  show (xs.drop (min n xs.length)).take (xs.length - min n xs.length) = xs.drop n
  rw [List.take_of_length_le (by rw [List.length_drop]; omega)]
  by_cases h : n ≤ xs.length
  · rw [Nat.min_eq_left h]
  · rw [Nat.min_eq_right (by omega), List.drop_length, List.drop_eq_nil_of_le (by omega)]
theorem strsOf_map : ∀ xs : List Str, strsOf (xs.map .str) = some xs
  | [] => rfl
  | x :: xs => by simp only [List.map_cons, strsOf, strsOf_map xs]
theorem gSorted_strs {xs : List Str} (h : xs.length < 64) : gSorted [.list (xs.map .str)] = some (.list ((sortS xs).map .str)) := by
  simp only [gSorted, strsOf_map, h, if_true]
theorem boolsOf_map : ∀ xs : List Bool, boolsOf (xs.map .bool) = some xs
  | [] => rfl
  | x :: xs => by simp only [List.map_cons, boolsOf, boolsOf_map xs]
theorem gAll_bools (xs : List Bool) : gAll [.list (xs.map .bool)] = some (.bool (xs.all id)) := by simp only [gAll, boolsOf_map]
def T (xs : List Str) : D := .tuple (xs.map .str)
theorem eqv_str (a b : Str) : PyData.eqv (.str a) (.str b) = (a == b) := by simp only [PyData.eqv]
theorem canLay_strs : ∀ {xs : List Str}, (∀ x ∈ xs, PyData.strOk x = true) → PyData.canLayAll0 (xs.map .str) = true
  | [], _ => by simp [PyData.canLayAll0]
  | x :: xs, h => by simp [PyData.canLayAll0, PyData.canLay0, h x List.mem_cons_self, canLay_strs fun y hy => h y (List.mem_cons_of_mem _ hy)]
theorem depth_strs : ∀ xs : List Str, PyData.depthAll (xs.map .str) = 0
  | [] => by simp [PyData.depthAll]
  | x :: xs => by simp [PyData.depthAll, PyData.depth, depth_strs xs]
theorem shp_T {xs : List Str} (h : ∀ x ∈ xs, PyData.strOk x = true) : shp (T xs) = true := shp_of (by simp only [T, PyData.canLay0]; exact canLay_strs h) (by simp only [T, PyData.depth, depth_strs]; decide)
theorem shp_str {x : Str} (h : PyData.strOk x = true) : shp (.str x) = true := shp_of (by simp only [PyData.canLay0]; exact h) (by simp only [PyData.depth]; decide)
theorem gInB_T {a : Str} {S : List Str} (ha : PyData.strOk a = true) (hS : ∀ x ∈ S, PyData.strOk x = true) : gInB (.str a) (T S) = some (S.contains a) := by
  have h1 := shp_T hS
  have h2 := shp_str ha
  unfold T at h1 ⊢
  unfold gInB
  simp only [h1, h2, Bool.and_self, if_true, List.any_map]
  congr 1
  rw [List.contains_eq_any_beq]
  congr 1
  funext z
  simp only [Function.comp, eqv_str]
  rw [Bool.eq_iff_iff, beq_iff_eq, beq_iff_eq]
  exact eq_comm
theorem gIn_T {a : Str} {S : List Str} (ha : PyData.strOk a = true) (hS : ∀ x ∈ S, PyData.strOk x = true) : gIn (.str a) (T S) = some (.bool (S.contains a)) := by simp only [gIn, gInB_T ha hS, Option.map_some]
theorem gNotIn_T {a : Str} {S : List Str} (ha : PyData.strOk a = true) (hS : ∀ x ∈ S, PyData.strOk x = true) : gNotIn (.str a) (T S) = some (.bool (!S.contains a)) := by simp only [gNotIn, gInB_T ha hS, Option.map_some]
def pr (p : Str × Str) : D := .tuple [.str p.1, .str p.2]
theorem canLay_pr {p : Str × Str} (h1 : PyData.strOk p.1 = true) (h2 : PyData.strOk p.2 = true) : (pr p).canLay0 = true := by simp [pr, PyData.canLay0, PyData.canLayAll0, h1, h2]
theorem depth_pr (p : Str × Str) : (pr p).depth = 1 := by simp [pr, PyData.depth, PyData.depthAll]
theorem canLay_prs : ∀ {ps : List (Str × Str)}, (∀ p ∈ ps, PyData.strOk p.1 = true ∧ PyData.strOk p.2 = true) → PyData.canLayAll0 (ps.map pr) = true
  | [], _ => by simp [PyData.canLayAll0]
  | p :: ps, h => by
    have := h p List.mem_cons_self
    simp [PyData.canLayAll0, canLay_pr this.1 this.2, canLay_prs fun y hy => h y (List.mem_cons_of_mem _ hy)]
theorem depth_prs : ∀ ps : List (Str × Str), PyData.depthAll (ps.map pr) ≤ 1
  | [] => by simp [PyData.depthAll]
  | p :: ps => by
    have := depth_prs ps
    simp only [List.map_cons, PyData.depthAll, depth_pr]; omega
theorem putD_new {ps : List (Key × D)} {k : Key} {v : D} (h : k ∉ ps.map (·.1)) : putD ps k v = ps ++ [(k, v)] := by
  induction ps with
  | nil => rfl
  | cons p r ih =>
    obtain ⟨a, b⟩ := p
    simp only [List.map_cons, List.mem_cons, not_or] at h
    simp only [putD, if_neg (fun e : a = k => h.1 e.symm), ih h.2, List.cons_append]
theorem nd_inr {xs : List Str} (h : xs.Nodup) : (xs.map (Sum.inr : Str → Key)).Nodup := by
  unfold List.Nodup at h ⊢
  rw [List.pairwise_map]
  exact h.imp fun q e => q (Sum.inr.inj e)
end
end AP

namespace AP
noncomputable section
open PySem PySem.Spec PyProof.Rows L2 RZ
variable [Tbls] [Gd]
section
variable {X : Cx} {e : Expr} {es : List Expr} {ta : TA} {p pos : Pos}
end

def tIni (K : PySem.W.Frag) (w1 w2 : Str) : TS := tSeq (tOst K w1 (tVar 0) (tVar 1)) (tOst K w2 (tVar 0) (tVar 2))
def spIni (K : PySem.W.Frag) (C : Addr) (w1 w2 : Str) : Sp := fun vs H Q _ => ∃ (a : Addr) (v1 v2 : V), vs = [.ref a, v1, v2] ∧ OexC K C ∧ PySem.W.findIn K (.ref C) w1 = some none ∧ PySem.W.findIn K (.ref C) w2 = some none ∧ H a = some (exo a C none) ∧
  ∀ dx, H dx = none → dx ≠ a → Q .non (upd (upd (upd H dx (exd dx [(w1, v1)])) a (exo a C (some dx))) dx (exd dx [(w2, v2), (w1, v1)]))
theorem ini_reads {K : PySem.W.Frag} {C : Addr} {w1 w2 : Str} {N : List Str} {vs : List V} {H : Hp} {Q : VK} {E : XK} (h : spIni K C w1 w2 vs H Q E) : tIni K w1 w2 { nx := fun _ G => Q .non G, rt := Q } (L2.start N vs) H := by
  obtain ⟨a, v1, v2, rfl, T, n1, n2, ha, q⟩ := h
  refine ⟨v1, rfl, .ref a, rfl, a, C, rfl, T, n1, .inl ⟨ha, fun dx hd ne => ?_⟩⟩
  refine ⟨v2, rfl, .ref a, rfl, a, C, rfl, T, n2, .inr ⟨dx, [(w1, v1)], upd_same, ?_, by show 1 ≤ 900; decide, q dx hd ne⟩⟩
  rw [upd_ne ne, upd_same]
section
variable {P : Program} {w : World} {K : PySem.W.Frag} {mg : Str → Option Value} {base : Heap} {x qual : Str} {params : Arguments} {body : List Stmt} {scope : Scope} {dvs : List V} {kws : List (Str × V)} {f : Addr} {fd : FuncData}
theorem def_ini {N ps : List Str} {k : Nat} {C : Addr} {w1 w2 : Str} (F : FunD K x qual params body scope dvs kws f fd) (sc : FnScope N ps scope) (h3 : ps.length = 3)
    (reading : ∀ (cdv : Value) (A : Around) (outer : List Env) (s : Shared) (H : Hp) (E : XK), Room k (A.deeper (envOfC qual scope s.heap.objs.size f cdv)) → PSs (cxOf CX0 P w K mg base N qual scope f cdv A outer s H E) body (tIni K w1 w2)) :
    FnOk P w K mg base CX0 (k + 1) f fd ps (spIni K C w1 w2) :=
  F.ok sc (fun vs H Q E h => by obtain ⟨a, v1, v2, rfl, _⟩ := h; exact h3.symm) fun cdv A outer s H vs Q E hr h => ⟨tIni K w1 w2, reading cdv A outer s H E hr, ini_reads h⟩
theorem def_iniH {CX : CXT} {N ps : List Str} {k : Nat} {C : Addr} {w1 w2 : Str} (F : FunD K x qual params body scope dvs kws f fd) (sc : FnScope N ps scope) (h3 : ps.length = 3)
    (reading : ∀ (cdv : Value) (A : Around) (outer : List Env) (s : Shared) (H : Hp) (E : XK) (p : Addr × Obj), PSs (L2H.cxH CX P w K mg base N qual scope f cdv A outer s H E p) body (tIni K w1 w2)) :
    L2H.FnH P w K mg base CX (k + 1) f fd ps (spIni K C w1 w2) := by
  obtain ⟨oc, od, dV, kV, doc, pm, an, cdv, ct, osl, e, lk, hcd, _, _⟩ := F.ex
  subst e
  exact L2H.fn_ofH lk hcd sc (fun vs H Q E h => by obtain ⟨a, v1, v2, rfl, _⟩ := h; exact h3.symm) fun A outer s H vs Q E p hr hc hsp => ⟨tIni K w1 w2, reading cdv A outer s H E p, ini_reads hsp⟩
end
structure RX (K : PySem.W.Frag) (Z : Zs) (H : Hp) (cls : Value) (d : Option Addr) (c : Str) (fs : List (Str × D)) : Prop where
  cl : cls = .ref (He.ga K c)
  fld : ∃ (dd : Addr) (kvs : List (Str × V)), d = some dd ∧ H dd = some (.xd kvs) ∧ kvs.map (·.1) = fs.map (·.1) ∧ RpA Z H (kvs.map (·.2)) (fs.map (·.2))
theorem nt_xd {fs : List (Str × V)} : nt (.xd fs) := fun _ z => nomatch z
inductive OX where
  | n (o : Out) | ex (c : Str) (fs : List (Str × D)) (s : S)
def FinX (K : PySem.W.Frag) (Z : Zs) (M : List Addr) (H : Hp) (W : WX) (E : Ends) : OX → Prop
  | .n o => Fin Z M H E o
  | .ex c fs s' => ∀ M' σ' H' cls d, Ext M H M' H' → Rel Z M' s' σ' H' → RX K (zz Z M') H' cls d c fs → W cls d σ' H'
theorem FinX.ext {K : PySem.W.Frag} {Z : Zs} {M M' : List Addr} {H H' : Hp} {W : WX} {E : Ends} {out : OX} (e : Ext M H M' H') (f : FinX K Z M H W E out) : FinX K Z M' H' W E out := by
  cases out with
  | n o => exact Fin.ext e f
  | ex c fs s => exact fun M2 σ2 H2 cls d e2 r x => f M2 σ2 H2 cls d (e.trans e2) r x
end
end AP

namespace AP
noncomputable section
open PySem PySem.Spec PyProof.Rows L2 RZ
variable [Tbls] [Gd]
inductive RD where
  | ok (d : D) | er (c : Str) (fs : List (Str × D))
theorem RX.less {K : PySem.W.Frag} {Z Z' : Zs} {H : Hp} {cls : Value} {d : Option Addr} {c : Str} {fs : List (Str × D)} (k : ∀ b, Z' b → Z b) (x : RX K Z H cls d c fs) : RX K Z' H cls d c fs := by
  obtain ⟨a, dd, kvs, q1, q2, q3, q4⟩ := x
  exact ⟨a, dd, kvs, q1, q2, q3, RpA.less k q4⟩
section
variable {P : Program} {w : World} {K : PySem.W.Frag} {mg : Str → Option Value} {base : Heap} {x qual : Str} {params : Arguments} {body : List Stmt} {scope : Scope} {dvs : List V} {kws : List (Str × V)} {f : Addr} {fd : FuncData}
end
inductive EO where
  | ok (v : SV) (o : List MO) | er (c : Str) (fs : List (Str × D)) (s : S)
end
end AP

namespace AP
noncomputable section
open PySem PySem.Spec PyProof.Rows L2 RZ
variable [Tbls] [Gd]
structure CalX (CX : CXT) (P : Program) (w : World) (K : PySem.W.Frag) (mg : Str → Option Value) (base : Heap) (x : Str) (k : Nat) (ps : List Str) (sp : Sp) (f : Addr) (fd : FuncData) : Prop where
  G : FnG P w K mg base CX k f fd ps sp
  m : mg x = some (.ref f)
  kp : PySem.W.keepIn K (.ref f) = true
  b : Binds K fd ps []
section
variable {X : Cx} {CX : CXT} {k j : Nat} {f : Addr} {fd : FuncData} {ps : List Str} {sp : Sp} {x : Str} {p pos : Pos} {e : Expr} {es : List Expr} {t : TA} {E : L2.St → XK} {E1 : XK}
end
end
end AP

namespace AP
noncomputable section
open PySem PySem.Spec PyProof.Rows L2 RZ
variable [Tbls] [Gd]
def rCntB (K : PySem.W.Frag) : V → List V → Hp → VK → Prop := fun x xs H Q => ∃ (p : Addr) (bs : List Bool) (k : Bool), x = .ref p ∧ xs = [.bl k] ∧ SqL K H p (bs.map V.bl) ∧ Q (.int (bs.count k : Nat)) H
section
variable {X : Cx}
end
structure ExI (K : PySem.W.Frag) (D : Addr) : Prop where
  cl : (PySem.W.clsIn K D).isSome = true
  hg : PySem.W.findIn K (.ref D) "__getattribute__" = some (some (.builtin "BaseException.__getattribute__"))
  hk : PySem.W.findIn K (.ref D) "__getattr__" = some none
  hs : PySem.W.subIn K (.ref D) (.type "BaseException") = some true
  ha : PySem.W.findIn K (.ref D) "__class__" = some (some (.builtin "object.__class__"))
  hn : PySem.W.specialIn K (.builtin "object.__class__") "__get__" = some (some (.builtin "getset_descriptor.__get__"))
  ht : PySem.W.takesIn K (.builtin "object.__class__") = some true
  hm : PySem.W.mroIn K D (.type "object") = some true
def rIsX (K : PySem.W.Frag) (cls : Value) (d : Option Addr) (a : Addr) : List V → Hp → VK → Prop := fun xs H Q => ∃ (D dd : Addr) (fs : List (Str × V)) (c : V) (cv : Value) (b : Bool), xs = [.ref a, c] ∧ cls = .ref D ∧ d = some dd ∧ H dd = some (.xd fs) ∧ ExI K D ∧
  (∀ u, RelV c u → u = cv) ∧ PySem.W.kitOne K (.ref D) cv = some b ∧ Q (.bl b) H
end
end AP

namespace AP
noncomputable section
open PySem PySem.Spec PyProof.Rows L2 RZ
variable [Tbls] [Gd]
def tIsE (K : PySem.W.Frag) (cls : Value) (d : Option Addr) (a : Addr) (c : V) : TE := tCB (rIsX K cls d a) (tCons (tVar 1) (tCons (tC c) tNil))
def cV (K : PySem.W.Frag) (C : Str) : V := .ref (He.ga K C)
structure Kits (K : PySem.W.Frag) (c : Str) (b1 b2 b3 : Bool) : Prop where
  ex : ExI K (He.ga K c)
  k1 : PySem.W.kitOne K (.ref (He.ga K c)) (.ref (He.ga K "NotUsable")) = some b1
  k2 : PySem.W.kitOne K (.ref (He.ga K c)) (.ref (He.ga K "InvalidPaper")) = some b2
  k3 : PySem.W.kitOne K (.ref (He.ga K c)) (.ref (He.ga K "InvalidText")) = some b3
  s1 : PySem.W.kitOne K (.ref (He.ga K c)) (.ref (He.ga K "NetError")) = some b1
  s2 : PySem.W.kitOne K (.ref (He.ga K c)) (.ref (He.ga K "PaperError")) = some b2
  s3 : PySem.W.kitOne K (.ref (He.ga K c)) (.ref (He.ga K "TextError")) = some b3
  ve : PySem.W.kitOne K (.ref (He.ga K c)) (.type "ValueError") = some true
  se : PySem.W.kitOne K (.ref (He.ga K c)) (.ref (He.ga K "SpreadError")) = some false
theorem isE_run {K : PySem.W.Frag} {Z : Zs} {H : Hp} {cls : Value} {d : Option Addr} {a : Addr} {c : Str} {fs : List (Str × D)} {cc : V} {cv : Value} {b : Bool} {σ : L2.St} {Q : VK} (x : RX K Z H cls d c fs) (ex : ExI K (He.ga K c))
    (hs : σ[1]? = some (some (.ref a))) (hcv : ∀ u, L2.RelV cc u → u = cv) (k : PySem.W.kitOne K (.ref (He.ga K c)) cv = some b) (q : Q (.bl b) H) : tIsE K cls d a cc σ H Q := by
  obtain ⟨e1, dd, kvs, e2, e3, _, _⟩ := x
  exact ⟨.ref a, hs, He.ga K c, dd, kvs, cc, cv, b, rfl, e1, e2, e3, ex, hcv, k, q⟩
theorem cV_rel {K : PySem.W.Frag} {C : Str} : ∀ u, L2.RelV (cV K C) u → u = .ref (He.ga K C) := fun u r => r
theorem ty_rel {T : String} : ∀ u, L2.RelV (.ty T) u → u = .type T := fun u r => r
theorem RX.new {K : PySem.W.Frag} {Z : Zs} {H H' : Hp} {cls : Value} {d : Option Addr} {c : Str} {fs : List (Str × D)} (n : New H H') (x : RX K Z H cls d c fs) : RX K Z H' cls d c fs := by
  obtain ⟨a, dd, kvs, q1, q2, q3, q4⟩ := x
  exact ⟨a, dd, kvs, q1, n.at_ _ _ q2 nt_xd, q3, q4.new n⟩
theorem xf_run {K : PySem.W.Frag} {Z : Zs} {H : Hp} {cls : Value} {d : Option Addr} {a : Addr} {c f : Str} {fs : List (Str × D)} {dv : D} {σ : L2.St} {Q : VK} (x : RX K Z H cls d c fs) (hs : σ[1]? = some (some (.ref a))) (hf : fs.lookup f = some dv)
    (q : ∀ v, Rp Z H v dv → Q v H) : tXf a cls d (He.ga K c) f (tVar 1) σ H Q := by
  obtain ⟨e1, dd, kvs, e2, e3, e4, e5⟩ := x
  have key : ∀ (kvs : List (Str × V)) (fs : List (Str × D)), kvs.map (·.1) = fs.map (·.1) → RpA Z H (kvs.map (·.2)) (fs.map (·.2)) → fs.lookup f = some dv → ∃ v, kvs.lookup f = some v ∧ Rp Z H v dv := by
    intro kvs fs
    induction fs generalizing kvs with
    | nil => intro _ _ h; simp at h
    | cons p r ih =>
      intro h1 h2 h3
      cases kvs with
      | nil => simp at h1
      | cons u t =>
        simp only [List.map_cons, List.cons.injEq] at h1
        cases h2 with
        | cons hv ht =>
          obtain ⟨pk, pd⟩ := p
          obtain ⟨uk, uv⟩ := u
          have ek : uk = pk := h1.1
          subst ek
          rw [List.lookup_cons] at h3 ⊢
          by_cases e : (f == uk) = true
          · rw [e] at h3 ⊢
            cases h3
            exact ⟨uv, rfl, hv⟩
          · rw [Bool.not_eq_true] at e
            rw [e] at h3 ⊢
            exact ih t h1.2 ht h3
  obtain ⟨v, l, r⟩ := key kvs fs e4 e5 hf
  exact ⟨.ref a, hs, rfl, e1, dd, kvs, v, e2, e3, l, q v r⟩
end
end AP

namespace AP
noncomputable section
open PySem PySem.Spec PyProof.Rows L2 RZ
variable [Tbls] [Gd]
end
end AP

namespace AP
noncomputable section
open PySem PySem.Spec PyProof.Rows L2 RZ
variable [Tbls] [Gd]
end
end AP

namespace AP
noncomputable section
open PySem PySem.Spec PyProof.Rows L2 RZ
variable [Tbls] [Gd]
abbrev Info := Str → Option (Bool × Bool × Bool)
structure InfoOk (K : PySem.W.Frag) (info : Info) : Prop where
  kits : ∀ c b1 b2 b3, info c = some (b1, b2, b3) → Kits K c b1 b2 b3
  own : ∀ c b1 b2 b3, info c = some (b1, b2, b3) → (b1 = true → c = Str.ofString "NotUsable") ∧ (b2 = true → c = Str.ofString "InvalidPaper") ∧ (b3 = true → c = Str.ofString "InvalidText")
  exm : ∀ c b1 b2 b3, info c = some (b1, b2, b3) → PySem.W.exmOne K (.ref (He.ga K c)) (.ref (He.ga K "PieceError")) = some true
end
end AP

namespace AP
noncomputable section
open PySem PySem.Spec PyProof.Rows L2 RZ
variable [Tbls] [Gd]
structure ExF (K : PySem.W.Frag) (c w1 w2 : Str) : Prop where
  T : OexC K (He.ga K c)
  n1 : PySem.W.findIn K (.ref (He.ga K c)) w1 = some none
  n2 : PySem.W.findIn K (.ref (He.ga K c)) w2 = some none
structure ExM (P : Program) (w : World) (K : PySem.W.Frag) (mg : Str → Option Value) (base : Heap) (c w1 w2 : Str) (fi : Addr) (fdi : FuncData) (ps : List Str) : Prop where
  ini : PySem.W.findIn K (.ref (He.ga K c)) "__init__" = some (some (.ref fi))
  ty : PySem.W.typeIn K (.ref fi) = some (.type "function")
  F : FnOk P w K mg base CX0 1 fi fdi ps (spIni K (He.ga K c) w1 w2)
  FH : L2H.FnH P w K mg base CX0 1 fi fdi ps (spIni K (He.ga K c) w1 w2)
  b : Binds K fdi ps []
  m : mg c = some (.ref (He.ga K c))
section
variable {X : Cx} {W : WX} {c w1 w2 : Str} {fi : Addr} {fdi : FuncData} {ps : List Str} {k : Nat} {e : Expr} {es : List Expr} {ta : TA} {p cp pos rpos : Pos} {j : Nat}
end
structure HrF (P : Program) (w : World) (K : PySem.W.Frag) (mg : Str → Option Value) (x a : Str) (params : Arguments) (body : List Stmt) (sg : Scope) (Ng : List Str) (g : Addr) (fd : FuncData) : Prop where
  F : FunD K x x params body sg [] [] g fd
  m : mg x = some (.ref g)
  b : Binds K fd [a] []
  S : FnScope Ng [a] sg
  n0 : Ng[0]? = some a
  va : Vis sg a
section
variable {X : Cx}
end
end
end AP

namespace AP
noncomputable section
open PySem PySem.Spec PyProof.Rows L2 RZ
variable [Tbls] [Gd]
def gRep : D → D → Option D
  | .list xs, .int k => if -(2 ^ 63) ≤ k ∧ k < 2 ^ 63 ∧ xs.length * k.toNat ≤ 100000 then some (.list (List.replicate k.toNat xs).flatten) else none
  | _, _ => none
theorem rpA_rep {Z : Zs} {H : Hp} {us : List V} {xs : List D} (r : RpA Z H us xs) : ∀ n : Nat, RpA Z H (List.replicate n us).flatten (List.replicate n xs).flatten
  | 0 => .nil
  | n + 1 => by
    rw [List.replicate_succ, List.replicate_succ, List.flatten_cons, List.flatten_cons]
    exact r.append (rpA_rep r n)
theorem r2_rep : R2D rRep gRep := by
  intro Z H hz v1 v2 d1 d2 d r1 r2 e Q q
  unfold gRep at e
  split at e
  · rename_i xs k
    split at e
    · rename_i h
      cases e
      obtain ⟨a, us, rfl, ha, ra⟩ := r1
      cases r2
      refine ⟨a, k, us, rfl, rfl, ha, h.1, h.2.1, small_line (by rw [ra.length]; exact h.2.2), fun p hp => ?_⟩
      have n := New.upd (o := .lst (List.replicate k.toNat us).flatten) hp
      exact q _ _ n (.lst (fun z => hz p z hp) upd_same ((rpA_rep ra _).new n))
    · cases e
  · cases e
def rMulU : R2 := fun x y H Q => rMul x y H Q ∨ rRep x y H Q
theorem op_mulU {X : Cx} : OpR X (binaryOp .Mult) rMulU := op_mul.or op_rep
def gMulU (a b : D) : Option D := oel (gMul a b) (gRep a b)
theorem r2_mulU : R2D rMulU gMulU := r2_mul.or r2_rep
def mRepN (a b : EM) : NM := fun s => match a s with
  | none => none
  | some (x, o1) => match b (s.on o1) with
    | none => none
    | some (y, o2) => match vw o2 x, vw o2 y with
      | some (.list xs), some (.int k) => if -(2 ^ 63) ≤ k ∧ k < 2 ^ 63 ∧ xs.length * k.toNat ≤ 100000 then some (.l (List.replicate k.toNat xs).flatten, o2) else none
      | _, _ => none
theorem sn_repN {ta tb : TE} {a b : EM} (ha : Sn ta a) (hb : Sn tb b) : SnN (tOp rMulU ta tb) (mRepN a b) := by
  intro Z M s σ H h r o' e Q q
  unfold mRepN at e
  split at e
  · cases e
  · rename_i x o1 ea
    refine ha Z M s σ H h x o1 ea _ fun M1 v1 H1 e1 h1 r1 => ?_
    split at e
    · cases e
    · rename_i y o2 eb
      refine hb Z M1 (s.on o1) σ H1 h1 y o2 eb _ fun M2 v2 H2 e2 h2 r2 => ?_
      split at e
      · rename_i xs k w1 w2
        split at e
        · rename_i hl
          cases e
          obtain ⟨a1, us, rfl, q1, p1⟩ := vw_ok h2.r (e2.rv r1) w1
          have z := vw_ok h2.r r2 w2
          cases z
          refine .inr ⟨a1, k, us, rfl, rfl, q1, hl.1, hl.2.1, small_line (by rw [p1.length]; exact hl.2.2), fun p hp => ?_⟩
          have m2 : M2 = M := e2.same.trans e1.same
          obtain ⟨g1, g2⟩ := own_new (ob := .lst (List.replicate k.toNat us).flatten) (r := .l (List.replicate k.toNat xs).flatten) h2 hp ⟨_, rfl, rpA_rep p1 _⟩
          exact q M2 p _ m2 ((e1.toExt.trans e2.toExt).trans g2) g1
        · cases e
      · cases e
def rngD (a b : Int) : List D := (List.range (b - a).toNat).map fun (i : Nat) => PyData.int (a + (i : Nat))
theorem rpA_rng {Z : Zs} {H : Hp} (a b : Int) : RpA Z H (rgV a b) (rngD a b) := by
  unfold rgV rngD
  generalize List.range (b - a).toNat = l
  induction l with
  | nil => exact .nil
  | cons i r ih => exact .cons (.int _) ih
def okRg (a b : Int) : Bool := decide (0 ≤ a) && decide (0 ≤ b) && decide (a ≤ 100000) && decide (b ≤ 100000)
theorem okRg_ok {a b : Int} (h : okRg a b = true) : RgOk a b := by
  simp only [okRg, Bool.and_eq_true, decide_eq_true_eq] at h
  exact RgOk.of_le h.1.1.1 (by omega) (by omega) h.1.1.2
def mLstRg2 (a b : EM) : EM := fun s => match a s with
  | some (.d (.int i), o1) => (match b (s.on o1) with
    | some (.d (.int j), o2) => if okRg i j = true then some (.d (.list (rngD i j)), o2) else none
    | _ => none)
  | _ => none
theorem sn_lstRg2 {ta tb : TE} {a b : EM} (ha : Sn ta a) (hb : Sn tb b) : Sn (tLstRg (tRg2 ta tb)) (mLstRg2 a b) := by
  intro Z M s σ H h w o' e Q q
  unfold mLstRg2 at e
  split at e
  · rename_i i o1 ea
    split at e
    · rename_i j o2 eb
      split at e
      · rename_i ok
        cases e
        refine ha Z M s σ H h _ _ ea _ fun M1 v1 H1 e1 h1 r1 => ?_
        have r1' : Rp (zz Z M1) H1 v1 (.int i) := r1
        cases r1'
        refine hb Z M1 (s.on o1) σ H1 h1 _ _ eb _ fun M2 v2 H2 e2 h2 r2 => ?_
        have r2' : Rp (zz Z M2) H2 v2 (.int j) := r2
        cases r2'
        refine ⟨i, j, rfl, rfl, okRg_ok ok, fun p hp => ?_⟩
        have nw := New.upd (o := .lst (rgV i j)) hp
        exact q M2 _ _ ((e1.trans e2).trans (Ex2.new nw)) (h2.new nw) (.lst (fresh_nz h2.r.zzd hp) upd_same (rpA_rng i j))
      · cases e
    · cases e
  · cases e
end
end AP

namespace AP
noncomputable section
open PySem PySem.Spec PyProof.Rows L2 RZ
variable [Tbls] [Gd]
def RMD (r : V → List V → Hp → VK → Prop) (g : D → D → Option D) : Prop := ∀ (Z : Zs) (H : Hp), (∀ a, Z a → H a ≠ none) → ∀ v1 v2 d1 d2 d, Rt Z H v1 d1 → Rt Z H v2 d2 → g d1 d2 = some d → ∀ Q : VK, (∀ v H', New H H' → Rp Z H' v d → Q v H') → r v1 [v2] H Q
def mPop0 (a : EM) : EM := fun s => match a s with
  | some (.m k, o1) => (match o1[k]? with
    | some (.l ds) => (match ds[ds.length - 1]? with
      | some d => some (.d d, o1.set k (.l ds.dropLast))
      | none => none)
    | _ => none)
  | _ => none
theorem RpA.dropLast {Z : Zs} {H : Hp} {us : List V} {xs : List D} (r : RpA Z H us xs) : RpA Z H us.dropLast xs.dropLast := by
  rw [List.dropLast_eq_take, List.dropLast_eq_take, r.length]
  exact r.take _
theorem sn_pop {K : PySem.W.Frag} {ta : TE} {a : EM} (ha : Sn ta a) : Sn (tBM0 K "list" rPop ta) (mPop0 a) := by
  intro Z M s σ H h w o' e Q q
  unfold mPop0 at e
  split at e
  · rename_i k o1 ea
    split at e
    · rename_i ds hk
      split at e
      · rename_i d hd
        cases e
        refine ha Z M s σ H h _ _ ea _ fun M1 v1 H1 e1 h1 r1 => ?_
        obtain ⟨p, hp, rfl⟩ := r1
        obtain ⟨xs, hx, rx⟩ := h1.r.ob k p _ hp hk
        obtain ⟨y, hy, ry⟩ := rx.get hd
        refine ⟨.inl ⟨rfl, _, SqL.of hx⟩, p, xs, y, rfl, rfl, hx, by rw [rx.length]; exact hy, ?_⟩
        obtain ⟨g1, g2⟩ := own_mut (ob := .lst xs.dropLast) (r := .l ds.dropLast) h1 hp ⟨_, rfl, rx.dropLast⟩
        exact q M1 y _ ⟨e1.toExt.trans g2, e1.same⟩ g1 (g2.mono_d ry)
      · cases e
    · cases e
  · cases e
def ixP (i : Int) (n : Nat) : Option Nat := if -(2 ^ 63) ≤ i ∧ i < 2 ^ 63 then seqIndex? i n else none
def mPopI (a b : EM) : EM := fun s => match a s with
  | some (.m k, o1) => (match o1[k]? with
    | some (.l _) => (match b (s.on o1) with
      | some (.d (.int i), o2) => (match o2[k]? with
        | some (.l ds) => (match ixP i ds.length with
          | some j => (match ds[j]? with
            | some d => some (.d d, o2.set k (.l (ds.eraseIdx j)))
            | none => none)
          | none => none)
        | _ => none)
      | _ => none)
    | _ => none)
  | _ => none
theorem RpA.erase {Z : Zs} {H : Hp} {us : List V} {xs : List D} (r : RpA Z H us xs) (j : Nat) : RpA Z H (us.eraseIdx j) (xs.eraseIdx j) := by
  rw [List.eraseIdx_eq_take_drop_succ, List.eraseIdx_eq_take_drop_succ]
  exact (r.take j).append (r.drop (j + 1))
theorem sn_popI {K : PySem.W.Frag} {ta tb : TE} {a b : EM} (ha : Sn ta a) (hb : Sn tb b) : Sn (tBM K "list" rPopAt ta (tCons tb tNil)) (mPopI a b) := by
  intro Z M s σ H h w o' e Q q
  unfold mPopI at e
  split at e
  · rename_i k o1 ea
    split at e
    · rename_i ds1 hk1
      split at e
      · rename_i i o2 eb
        split at e
        · rename_i ds hk
          split at e
          · rename_i j hj
            split at e
            · rename_i d hd
              cases e
              refine ha Z M s σ H h _ _ ea _ fun M1 v1 H1 e1 h1 r1 => ?_
              obtain ⟨p, hp, rfl⟩ := r1
              obtain ⟨xs1, hx1, _⟩ := h1.r.ob k p _ hp hk1
              refine ⟨.inl ⟨rfl, _, SqL.of hx1⟩, ?_⟩
              refine hb Z M1 (s.on o1) σ H1 h1 _ _ eb _ fun M2 v2 H2 e2 h2 r2 => ?_
              have r2' : Rp (zz Z M2) H2 v2 (.int i) := r2
              cases r2'
              have hp2 := e2.toExt.at hp
              obtain ⟨xs, hx, rx⟩ := h2.r.ob k p _ hp2 hk
              obtain ⟨y, hy, ry⟩ := rx.get hd
              unfold ixP at hj
              split at hj
              · rename_i hb2
                refine ⟨p, xs, i, j, y, rfl, rfl, hx, hb2.1, hb2.2, by rw [rx.length]; exact hj, hy, ?_⟩
                obtain ⟨g1, g2⟩ := own_mut (ob := .lst (xs.eraseIdx j)) (r := .l (ds.eraseIdx j)) h2 hp2 ⟨_, rfl, rx.erase j⟩
                exact q M2 y _ ⟨(e1.toExt.trans e2.toExt).trans g2, e2.same.trans e1.same⟩ g1 (g2.mono_d ry)
              · cases hj
            · cases e
          · cases e
        · cases e
      · cases e
    · cases e
  · cases e
end
end AP

namespace AP
noncomputable section
open PySem PySem.Spec PyProof.Rows L2 RZ
variable [Tbls] [Gd]
def seqD : D → Option (List D)
  | .list ds => some ds
  | .tuple ds => some ds
  | _ => none
def mStar (a : EM) (r : AM) : AM := fun s => match a s with
  | none => none
  | some (x, o1) => match vw o1 x with
    | none => none
    | some d => match seqD d with
      | none => none
      | some ds => match r (s.on o1) with
        | none => none
        | some (xs, o2) => some (ds.map .d ++ xs, o2)
theorem RvA.ofD {Z : Zs} {M : List Addr} {H : Hp} : ∀ {us : List V} {ds : List D}, RpA (zz Z M) H us ds → RvA Z M H us (ds.map .d)
  | _, _, .nil => .nil
  | _, _, .cons h r => .cons h (RvA.ofD r)
theorem RvA.app {Z : Zs} {M : List Addr} {H : Hp} : ∀ {us vs : List V} {xs ys : List SV}, RvA Z M H us xs → RvA Z M H vs ys → RvA Z M H (us ++ vs) (xs ++ ys)
  | _, _, _, _, .nil, h => h
  | _, _, _, _, .cons h r, g => .cons h (RvA.app r g)
theorem sn_star {K : PySem.W.Frag} {ta : TE} {tr : TA} {a : EM} {r : AM} (ha : Sn ta a) (hr : SnA tr r) : SnA (StX.tStar K ta tr) (mStar a r) := by
  intro Z M s σ H h w o' e Q q
  unfold mStar at e
  split at e
  · cases e
  · rename_i x o1 ea
    refine ha Z M s σ H h x o1 ea _ fun M1 v1 H1 e1 h1 r1 => ?_
    split at e
    · cases e
    · rename_i d hd
      split at e
      · cases e
      · rename_i ds hs
        split at e
        · cases e
        · rename_i xs o2 er
          cases e
          have t := vw_ok h1.r r1 hd
          have : ∃ p us, v1 = .ref p ∧ (SqT K H1 p us ∨ SqL K H1 p us) ∧ RpA (zz Z M1) H1 us ds := by
            unfold seqD at hs
            split at hs
            · cases hs
              obtain ⟨p, us, rfl, g, ra⟩ := t
              exact ⟨_, _, rfl, .inr (SqL.of g), ra⟩
            · cases hs
              obtain ⟨p, us, rfl, g, ra, _⟩ := t
              exact ⟨_, _, rfl, .inl (g.sq), ra⟩
            · cases hs
          obtain ⟨p, us, rfl, hq, ra⟩ := this
          refine ⟨p, us, rfl, hq, ?_⟩
          refine hr Z M1 (s.on o1) σ H1 h1 _ _ er _ fun M2 vs H2 e2 h2 r2 => ?_
          exact q M2 _ H2 (e1.trans e2) h2 (RvA.app (RvA.ext e2.toExt (RvA.ofD ra)) r2)
end
end AP

namespace AP
noncomputable section
open PySem PySem.Spec PyProof.Rows L2 RZ
variable [Tbls] [Gd]
inductive SnJ : List TE → List EM → Prop
  | nil : SnJ [] []
  | cons {t : TE} {m : EM} {ts : List TE} {ms : List EM} : Sn t m → SnJ ts ms → SnJ (t :: ts) (m :: ms)
end
end AP

namespace AP
noncomputable section
open PySem PySem.Spec PyProof.Rows L2 RZ
variable [Tbls] [Gd]
theorem keys_ok {Z : Zs} {H : Hp} : ∀ {kvs : List (Key × V)} {ps : List (D × D)} {ks : List Str}, RpK Z H kvs ps → strsOf (ps.map (·.1)) = some ks → kvs.map (·.1) = ks.map Sum.inr
  | _, _, _, .nil, e => by cases e; rfl
  | _, _, ks, .cons (k := k) (ps := ps) h r, e => by
    cases k with
    | inl i => simp [kD, strsOf] at e
    | inr x =>
      simp only [List.map_cons, kD, strsOf] at e
      cases e2 : strsOf (ps.map (·.1)) with
      | none => rw [e2] at e; cases e
      | some ys =>
        rw [e2] at e
        cases e
        simp only [List.map_cons, keys_ok r e2]
def rSortD : List V → Hp → VK → Prop := fun xs H Q => ∃ (a : Addr) (kvs : List (Key × V)) (ks : List Str), xs = [.ref a] ∧ Rd H a (.dK kvs) ∧ kvs.map (·.1) = ks.map Sum.inr ∧ ks.length < 64 ∧
    ∀ ys p, ys.Perm ks → sortedS ys = true → H p = none → Q (.ref p) (upd H p (.lst (ys.map V.str)))
def rSortU (K : PySem.W.Frag) : List V → Hp → VK → Prop := fun xs H Q => rSortA K xs H Q ∨ rSortD xs H Q
theorem cr_sortU {X : Cx} (hc : X.calm = true) : CallR X (.builtin "sorted") (rSortU X.K) := cr_sortA.or (call_sortedD hc)
def gSortedU : List D → Option D
  | [.dict ps] => (match strsOf (ps.map (·.1)) with
    | some ks => if ks.length < 64 then some (.list ((sortS ks).map .str)) else none
    | none => none)
  | ds => gSorted ds
theorem rc_sortedU {K : PySem.W.Frag} : RCD (rSortU K) gSortedU := by
  intro Z H hz vs ds d r e Q q
  unfold gSortedU at e
  split at e
  · split at e
    · rename_i ks hk
      split at e
      · rename_i h64
        cases e
        cases r with
        | cons h t =>
          cases t
          obtain ⟨a, kvs, rfl, hd, rk⟩ := h
          refine .inr ⟨a, kvs, ks, rfl, hd, keys_ok rk hk, h64, fun ys p hp hs hn => ?_⟩
          obtain rfl := sortS_only hp hs
          exact q _ _ (New.upd hn) (.lst (fresh_nz hz hn) upd_same (rpA_strs _))
      · cases e
    · cases e
  · exact .inl (rc_sorted Z H hz vs _ d r e Q q)
end
end AP

namespace AP
noncomputable section
open PySem PySem.Spec PyProof.Rows L2 RZ
variable [Tbls]
structure HeF (K : PySem.W.Frag) (mg : Str → Option Value) : Prop where
  isi : mg "isinstance" = none
  val : mg "ValueError" = none
  pie : mg "PieceError" = some (.ref (He.ga K "PieceError"))
  net : mg "NetError" = some (.ref (He.ga K "NetError"))
  pap : mg "PaperError" = some (.ref (He.ga K "PaperError"))
  txt : mg "TextError" = some (.ref (He.ga K "TextError"))
  spr : mg "SpreadError" = some (.ref (He.ga K "SpreadError"))
  use : mg "NotUsable" = some (.ref (He.ga K "NotUsable"))
  inp : mg "InvalidPaper" = some (.ref (He.ga K "InvalidPaper"))
  int : mg "InvalidText" = some (.ref (He.ga K "InvalidText"))
  xuse : XfC K (He.ga K "NotUsable")
  xinp : XfC K (He.ga K "InvalidPaper")
  xint : XfC K (He.ga K "InvalidText")
  u1 : PySem.W.findIn K (.ref (He.ga K "NotUsable")) "word" = some none
  u2 : PySem.W.findIn K (.ref (He.ga K "NotUsable")) "at" = some none
  p1 : PySem.W.findIn K (.ref (He.ga K "InvalidPaper")) "word" = some none
  p2 : PySem.W.findIn K (.ref (He.ga K "InvalidPaper")) "at" = some none
  t1 : PySem.W.findIn K (.ref (He.ga K "InvalidText")) "line" = some none
  t2 : PySem.W.findIn K (.ref (He.ga K "InvalidText")) "field" = some none
structure LmF (base : Heap) (mg : Str → Option Value) (fd : FuncData) (c Pt : Addr) (q : Str) : Prop where
  code : fd.code = .ref c
  tb : LamX.TabB base mg c Pt
  mem : (Pt, q) ∈ Tbls.T
  uniq : ∀ p ∈ Tbls.T, p.1 = Pt → p.2 = q
section
variable {Y : Cx} {E : XK} {e : Expr} {es : List Expr} {ps : List Str} {sp : Sp} {x : Str} {f : Addr} {fd : FuncData} {j k : Nat} {t : TA} {p pos : Pos}
end
theorem LmF.mem2 {X : Cx} {fd : FuncData} {c Pt : Addr} {nm : Str} (L : LmF X.base X.mg fd c Pt ((nm ++ (".<locals>." : Str)) ++ ("<lambda>" : Str))) (hq : X.env.qual = nm ++ (".<locals>." : Str)) : (Pt, X.env.qual ++ ("<lambda>" : Str)) ∈ Tbls.T := by
  rw [hq]; exact L.mem
end
end AP

namespace AP
noncomputable section
open PySem PySem.Spec PyProof.Rows L2 RZ
variable [Tbls] [Gd]
theorem RvA.length {Z : Zs} {M : List Addr} {H : Hp} : ∀ {vs : List V} {xs : List SV}, RvA Z M H vs xs → vs.length = xs.length
  | _, _, .nil => rfl
  | _, _, .cons _ r => by simp [RvA.length r]
section
variable {X : Cx} {o : Expr} {p pos apos mpos : Pos} {td : TE}
end
end
end AP

namespace AP
noncomputable section
open PySem PySem.Spec PyProof.Rows L2 RZ
def hpStart (T : List Addr) (a : Addr) (known : Bool) (o : Obj) (u : HO) : Hp := fun b =>
  if b ∈ T then some (.tbl #[]) else if known = false ∧ b = a then some (.frz o u) else none
section
variable {T : List Addr} {a b : Addr} {known : Bool} {o : Obj} {u : HO}
theorem hpStart_tab (h : b ∈ T) : hpStart T a known o u b = some (.tbl #[]) := if_pos h
theorem hpStart_cases {z : HO} (h : hpStart T a known o u b = some z) : (b ∈ T ∧ z = .tbl #[]) ∨ (b ∉ T ∧ known = false ∧ b = a ∧ z = .frz o u) := by
  unfold hpStart at h
  by_cases h1 : b ∈ T
  · rw [if_pos h1] at h
    exact .inl ⟨h1, (Option.some.inj h).symm⟩
  · rw [if_neg h1] at h
    by_cases h2 : known = false ∧ b = a
    · rw [if_pos h2] at h
      exact .inr ⟨h1, h2.1, h2.2, (Option.some.inj h).symm⟩
    · rw [if_neg h2] at h
      cases h
theorem hpStart_script (h : a ∉ T) (hk : known = false) : hpStart T a known o u a = some (.frz o u) := by
  unfold hpStart
  rw [if_neg h, if_pos ⟨hk, rfl⟩]
end
abbrev Maker := Addr × Addr × Str
abbrev tblsOf (cs : List Maker) : Tbls := ⟨cs.map fun q => (q.2.1, q.2.2)⟩
abbrev tabO : Obj := { cls := .none, data := .fields #[] }
theorem end_callT {P : Program} {w : World} {K : PySem.W.Frag} {mg mb : Str → Option Value} {k : Nat} {fa a : Addr} {cs : List Maker} {fd : FuncData} {x : Str} {s₁ : Shared} {vs : List Value} {ns : List Int}
    (KX : K.In s₁.heap) (hns : s₁.heap.Ns mainGlobals mg) (hb : s₁.heap.Ns builtinsNs mb) (hbb : ∀ x : Str, x ≠ "__name__" → mb x = bootBuiltins x) (hlim : s₁.heap.NoLimit) (hg : s₁.gens = #[])
    (hT : ∀ q ∈ cs, s₁.heap.get? q.2.1 = some tabO) (nT : ∀ q ∈ cs, K.lookup q.2.1 = none) (C : ∀ q ∈ cs, PySem.W.CodeHd s₁.heap q.1 q.2.1)
    (hbm : ∃ (bm : Addr) (ob : Obj), mg "__builtins__" = some (.ref bm) ∧ bm ≠ builtinsNs ∧ s₁.heap.get? bm = some ob ∧ ob.cls = .type "module" ∧ ob.dict = some builtinsNs ∧ ob.data = .plain)
    (ha : s₁.heap.get? a = some { cls := .type "list", data := .seq vs.toArray }) (hi : IntsAre vs ns) (hl : ns.length ≤ 63) (hr : Room k callerA)
    (F : ∀ base : Heap, K.In base → base.Ns mainGlobals mg → (∀ q ∈ cs, LamX.TabB base mg q.1 q.2.1) → @FnG gT P w K mg base CX0 k fa fd [x] (@spLaw (tblsOf cs) K)) (hbind : ∀ (s : Shared) (u : Value), BindsTo s fd ⟨[u], []⟩ [(x, u)]) :
    codeAny (model P w) callerA (.call (.ref fa) ⟨[.ref a], []⟩) (fun r s' => r = .ok (.ret (.bool true)) ∧ OldK s₁.heap s'.heap ∧ s'.os = s₁.os ∧ AllBare s'.gens) s₁ := by
  letI : Gd := gT
  letI : Tbls := tblsOf cs
  have rv := vals_ints hi
  have lv := hi.length
  have small : ns.length ≤ sizeLine := Nat.le_trans hl (small_line (by omega))
  let T := cs.map fun q => q.2.1
  have inT : ∀ q ∈ cs, q.2.1 ∈ T := fun q hq => List.mem_map.mpr ⟨q, hq, rfl⟩
  have ofT : ∀ {b : Addr}, b ∈ T → ∃ q ∈ cs, q.2.1 = b := fun hb => by
    obtain ⟨q, hq, e⟩ := List.mem_map.mp hb
    exact ⟨q, hq, e⟩
  have tabT : ∀ {b : Addr}, b ∈ T → s₁.heap.get? b = some tabO ∧ K.lookup b = none := fun hb => by
    obtain ⟨q, hq, e⟩ := ofT hb
    subst e
    exact ⟨hT q hq, nT q hq⟩
  have aT : a ∉ T := fun z => by
    have q := (tabT z).1
    rw [ha] at q
    have e := congrArg Obj.data (Option.some.inj q)
    cases e
  let scr : Obj := { cls := .type "list", data := .seq vs.toArray }
  let known : Bool := (K.lookup a).isSome
  let H : Hp := hpStart T a known scr (.lst (ns.map V.int))
  have none_of : ∀ {b : Addr} {o : Obj}, s₁.heap.get? b = some o → (∀ vs n, o.data ≠ .seq vs n) → o.data ≠ .fields #[] → H b = none := fun {b o} e n1 n2 => by
    cases q : H b with
    | none => rfl
    | some z =>
      rcases hpStart_cases q with ⟨h1, _⟩ | ⟨_, _, h1, _⟩
      · rw [(tabT h1).1] at e
        cases e
        exact absurd rfl n2
      · rw [h1, ha] at e
        cases e
        exact absurd rfl (n1 _ _)
  have kin : K.In (hidT s₁.heap H) := fun b o e => hidT_get (KX b o e) (by
    cases q : H b with
    | none => rfl
    | some z =>
      rcases hpStart_cases q with ⟨h1, _⟩ | ⟨_, h2, h1, _⟩
      · rw [(tabT h1).2] at e
        cases e
      · have h3 : (K.lookup a).isSome = false := h2
        rw [h1] at e
        rw [e] at h3
        cases h3)
  have nsK : ∀ {b : Addr} {m : Str → Option Value}, s₁.heap.Ns b m → (hidT s₁.heap H).Ns b m := by
    rintro b m ⟨o, es, ep, e, d, r⟩
    exact ⟨o, es, ep, hidT_get e (none_of e (fun vs n z => by rw [d] at z; cases z) fun z => by rw [d] at z; cases z), d, r⟩
  have modK : L2.Mod K mg (hidT s₁.heap H) := by
    obtain ⟨mc, l1, l2⟩ := hlim
    exact ⟨kin, nsK hns, ⟨mb, nsK hb, hbb⟩, ⟨mc, nsK l1, l2⟩⟩
  have TB : ∀ q ∈ cs, LamX.TabB (hidT s₁.heap H) mg q.1 q.2.1 := fun q hq => by
    have t1 := hT q hq
    refine ⟨?_, ?_, fun z => ?_⟩
    · obtain ⟨o, us, file, tf, flags, tg, inF, text, tt, e1, r1, r2, r3⟩ := C q hq
      exact ⟨o, us, file, tf, flags, tg, inF, text, tt, hidT_get e1 (none_of e1 (fun vs n z => by rw [r2] at z; cases z) fun z => by
        rw [r2] at z
        cases z
        simp at r3), r1, r2, r3⟩
    · obtain ⟨bm, ob, b1, b2, b3, b4, b5, b6⟩ := hbm
      have n1 : bm ≠ mainGlobals := fun z => by
        obtain ⟨o, es, ep, e, hd, _⟩ := hns
        rw [z, e] at b3
        cases b3
        rw [hd] at b6
        cases b6
      have n2 : bm ≠ q.2.1 := fun z => by
        rw [z, t1] at b3
        cases b3
        cases b6
      exact ⟨bm, ob, b1, b2, n1, n2, hidT_get b3 (none_of b3 (fun vs n z => by rw [b6] at z; cases z) fun z => by rw [b6] at z; cases z), b4, b5, b6⟩
    · obtain ⟨o, es, ep, e, hd, _⟩ := hns
      rw [z, t1] at e
      cases e
      cases hd
  have hok : HOk P w H s₁.heap := fun b z e => by
    rcases hpStart_cases e with ⟨h1, rfl⟩ | ⟨_, _, h1, rfl⟩
    · exact (tabT h1).1
    · subst h1
      exact ⟨ha, by rw [List.length_map]; exact small, vs, _, rv, ha⟩
  have seen : SqL K H a (ns.map V.int) := by
    cases q : K.lookup a with
    | some o =>
      have e := KX a o q
      rw [ha] at e
      cases e
      exact .inr ⟨_, vs.toArray, _, q, rfl, rfl, rfl, by rw [List.size_toArray, lv]; exact small, by simpa using rv⟩
    | none => exact .inl (.inr ⟨scr, hpStart_script aT (by show (K.lookup a).isSome = false; rw [q]; rfl)⟩)
  have tabs : LamX.Tabs Tbls.T H := fun p hp => by
    obtain ⟨q, hq, e⟩ := List.mem_map.mp (show p ∈ cs.map fun q => (q.2.1, q.2.2) from hp)
    subst e
    exact LamX.TabS.nil (hpStart_tab (inT q hq))
  have e0 : Env0 P w K mg (hidT s₁.heap H) callerA [] s₁ H :=
    { frames := rfl, mod := modK, bs := fun b o e => of_hidT e, bsz := Nat.le_of_eq (hidT_size _ _), funs := trivial, frf := fun b z => absurd (show b ∈ ([] : List Addr) from z) (by simp), hok := hok, bare := .of_eq hg }
  refine codeAny_mono ((F _ kin modK.glob TB).goes callerA [] s₁ H ⟨[.ref a], []⟩ [.ref a] [.ref a] (fun v _ => v = .bl true) (fun _ _ _ => False) (fun _ => rfl) hr e0 (hbind s₁ (.ref a)) (.cons rfl .nil) ⟨a, ns, rfl, tabs, seen, hl, fun _ => rfl⟩) fun r s' h => ?_
  match r, h with
  | .ok (.ret v), h =>
    obtain ⟨x2, H2, os, bare, un, ok2, rl, q⟩ := h
    have q2 : x2 = .bl true := q
    subst q2
    cases rl
    have grown : ∀ {b : Addr}, b ∈ T → ∃ more : Array Value, s'.heap.get? b = some { cls := .none, data := .fields more } := fun {b} hb => by
      obtain ⟨more, z⟩ := un.tbls b #[] (hpStart_tab hb)
      exact ⟨_, ok2 b _ z⟩
    have kept : ∀ {b : Addr} {o : Obj}, b ∉ T → s₁.heap.get? b = some o → s'.heap.get? b = some o := fun {b o} nb e => by
      cases q3 : H b with
      | none => exact un.keep b o e q3 (fun z => absurd (show b ∈ ([] : List Addr) from z) (by simp)) (by simp)
      | some z =>
        rcases hpStart_cases q3 with ⟨h1, _⟩ | ⟨_, _, h1, h2⟩
        · exact absurd h1 nb
        · subst h1 h2
          obtain ⟨e2, _⟩ := ok2 _ _ (un.frzs _ _ _ q3)
          rw [ha] at e
          cases e
          exact e2
    refine ⟨rfl, ⟨fun b o e => ?_, fun b o e => ?_⟩, os, bare⟩
    · by_cases hb2 : b ∈ T
      · obtain ⟨more, hm⟩ := grown hb2
        obtain ⟨q3, hq, e3⟩ := ofT hb2
        subst e3
        rw [hT q3 hq] at e
        cases e
        exact .inr (.inl ⟨((C q3 hq).tab (hT q3 hq)).isCodeTable, rfl, #[], more, rfl, by rw [Array.empty_append]; exact hm⟩)
      · exact .inl (kept hb2 e)
    · by_cases hb2 : b ∈ T
      · obtain ⟨more, hm⟩ := grown hb2
        exact ⟨_, hm⟩
      · exact ⟨o, kept hb2 e⟩
  | .error e, h => exact (show False from h).elim
  | .ok .next, h => exact (show False from h).elim
  | .ok .brk, h => exact (show False from h).elim
  | .ok .cont, h => exact (show False from h).elim
theorem end_lawT {l : PySem.W.OpenLaw} {k : Nat} {q : Program} {loose : List Str} {XP : (Str → Option Value) → Heap → Prop} {YP : World → Heap → Prop} {d : DefRec} {x : Str}
    (hn : l.most = some 63) (hdf : d.params.defaults = []) (hr : Room k callerA)
    (F : ∀ (w : World) (mg : Str → Option Value) (fa : Addr) (h : Heap), YP w h → h.Ns mainGlobals mg → mg d.name = some (.ref fa) →
      ∃ (K : PySem.W.Frag) (fd : FuncData) (cs : List Maker), K.In h ∧ (∀ q ∈ cs, h.get? q.2.1 = some tabO) ∧ (∀ q ∈ cs, K.lookup q.2.1 = none) ∧ (∀ q ∈ cs, PySem.W.CodeHd h q.1 q.2.1) ∧ (∀ (s : Shared) (u : Value), BindsTo s fd ⟨[u], []⟩ [(x, u)]) ∧
        ∀ base : Heap, K.In base → base.Ns mainGlobals mg → (∀ q ∈ cs, LamX.TabB base mg q.1 q.2.1) → @FnG gT l.prog w K mg base CX0 k fa fd [x] (@spLaw (tblsOf cs) K)) :
    PySem.W.WalkO q loose XP YP l.row.toRowW d [] (fun f vs => PySem.call f vs) := by
  refine Att.attach_call hn hdf fun w s₀ s₁ mg mb fa o pm cd doc a vs ns G Y ho hd hcd hmg hobj hints hlen hg => ?_
  obtain ⟨K, fd, cs, KX, hT, nT, C, hb, hF⟩ := F w mg fa _ Y G.T.g hmg
  exact end_callT KX G.T.g G.T.b G.T.builtins G.T.nolimit hg hT nT C G.T.bmain hobj hints hlen hr hF hb
end
end AP

namespace AP
noncomputable section
open PySem PySem.Spec PyProof.Rows L2 RZ
def vB (a b : Option (Option Value)) : Bool := decide (a = b)
theorem vB_ok {a b : Option (Option Value)} (h : vB a b = true) : a = b := of_decide_eq_true h
def oB (a : Option Bool) (b : Bool) : Bool := decide (a = some b)
theorem oB_ok {a : Option Bool} {b : Bool} (h : oB a b = true) : a = some b := of_decide_eq_true h
theorem two {a b : Bool} (h : (a && b) = true) : a = true ∧ b = true := by simpa using h
def writtenB (K : PySem.W.Frag) (C : Addr) : Bool := match K.lookup C with
  | some ⟨.type c, _, .cls cd, sl⟩ => decide (c = "type") && (cd.hasDict && (!cd.hasDel && (match cd.mro, sl.toList with
    | .ref C' :: bm, [_, _, _, _, some (.builtin n), _] => decide (C' = C) && (decide (n = "ValueError.__new__") && PySem.HandSPX.refsVE bm)
    | _, _ => false)))
  | _ => false
theorem writtenB_ok {K : PySem.W.Frag} {C : Addr} (h : writtenB K C = true) :
    ∃ nm q N bs bm sn sub ab col dd k0 k1 k2 k3 k5, K.lookup C = some (excClassObj nm q C N bs bm true sn sub ab col dd k0 k1 k2 k3 k5 "ValueError.__new__") ∧ PySem.HandSPX.refsVE bm = true := by
  unfold writtenB at h
  split at h
  · rename_i c dd cd sl hl
    obtain ⟨h1, h⟩ := two h
    obtain ⟨h2, h⟩ := two h
    obtain ⟨h3, h⟩ := two h
    split at h
    · rename_i C' bm k0 k1 k2 k3 n k5 hm hs
      obtain ⟨g1, h⟩ := two h
      obtain ⟨g2, g3⟩ := two h
      have e1 : c = "type" := of_decide_eq_true h1
      have e2 : C' = C := of_decide_eq_true g1
      have e3 : n = "ValueError.__new__" := of_decide_eq_true g2
      have e4 : sl = #[k0, k1, k2, k3, some (.builtin n), k5] := Array.ext' hs
      obtain ⟨nm, bs, mro, ns, q, hd, sn, sub, ab, col, hdel⟩ := cd
      have e5 : hd = true := h2
      have e6 : hdel = false := by simpa using h3
      have e7 : mro = .ref C' :: bm := hm
      subst e1 e2 e3 e4 e5 e6 e7
      exact ⟨_, _, _, _, _, _, _, _, _, _, _, _, _, _, _, hl, g3⟩
    · cases h
  · cases h
def exB (K : PySem.W.Frag) (c w1 w2 : Str) : Bool := writtenB K (He.ga K c) && (vB (PySem.W.findIn K (.ref (He.ga K c)) "__setattr__") (some (some (.builtin "object.__setattr__"))) &&
  (oB (PySem.W.subIn K (.ref (He.ga K c)) (.type "BaseException")) true && (decide (PySem.W.typeIn K (.ref (He.ga K c)) = some (.type "type")) && (PySem.W.keepIn K (.ref (He.ga K c)) &&
  (vB (PySem.W.findIn K (.ref (He.ga K c)) w1) (some none) && (vB (PySem.W.findIn K (.ref (He.ga K c)) w2) (some none) &&
  (vB (PySem.W.findIn K (.ref (He.ga K c)) "__init__") (some (some (.ref (He.fAd K (c, some "__init__"))))) && decide (PySem.W.typeIn K (.ref (He.fAd K (c, some "__init__"))) = some (.type "function")))))))))
theorem exB_ok {K : PySem.W.Frag} {c w1 w2 : Str} (h : exB K c w1 w2 = true) : ExF K c w1 w2 ∧ PySem.W.findIn K (.ref (He.ga K c)) "__init__" = some (some (.ref (He.fAd K (c, some "__init__")))) ∧ PySem.W.typeIn K (.ref (He.fAd K (c, some "__init__"))) = some (.type "function") := by
  obtain ⟨h1, h⟩ := two h
  obtain ⟨h2, h⟩ := two h
  obtain ⟨h3, h⟩ := two h
  obtain ⟨h4, h⟩ := two h
  obtain ⟨h5, h⟩ := two h
  obtain ⟨h6, h⟩ := two h
  obtain ⟨h7, h⟩ := two h
  obtain ⟨h8, h9⟩ := two h
  exact ⟨⟨⟨writtenB_ok h1, vB_ok h2, oB_ok h3, of_decide_eq_true h4, h5⟩, vB_ok h6, vB_ok h7⟩, vB_ok h8, of_decide_eq_true h9⟩
section
variable [Tbls] [Gd]
theorem exM_of {P : Program} {w : World} {K : PySem.W.Frag} {mg : Str → Option Value} {base : Heap} {c w1 w2 qual : Str} {params : Arguments} {body : List Stmt} {scope : Scope} {N ps : List Str} {fd : FuncData} (h : exB K c w1 w2 = true) (hm : mg c = some (.ref (He.ga K c)))
    (F : FunD K "__init__" qual params body scope [] [] (He.fAd K (c, some "__init__")) fd) (sc : FnScope N ps scope) (h3 : ps.length = 3)
    (hb : ∀ (kV doc pm : Value) (an : Option Addr) (cdv ct : Value) (us : List Value), us.length = ps.length → bindArgs (PySem.W.fnOf "__init__" qual params body scope .none kV doc pm an cdv ct) ⟨us, []⟩ = pure (ps.zip us))
    (r1 : ∀ (cdv : Value) (A : Around) (outer : List Env) (s : Shared) (H : Hp) (E : XK), PSs (cxOf CX0 P w K mg base N qual scope (He.fAd K (c, some "__init__")) cdv A outer s H E) body (tIni K w1 w2))
    (r2 : ∀ (cdv : Value) (A : Around) (outer : List Env) (s : Shared) (H : Hp) (E : XK) (p : Addr × Obj), PSs (L2H.cxH CX0 P w K mg base N qual scope (He.fAd K (c, some "__init__")) cdv A outer s H E p) body (tIni K w1 w2)) :
    ExM P w K mg base c w1 w2 (He.fAd K (c, some "__init__")) fd ps :=
  have e := exB_ok h
  ⟨e.2.1, e.2.2, def_ini (k := 0) F sc h3 fun cdv A outer s H E _ => r1 cdv A outer s H E, def_iniH (k := 0) F sc h3 fun cdv A outer s H E p => r2 cdv A outer s H E p, F.bindsN hb, hm⟩
end
def lamName (x : Str) : Str := (x ++ (".<locals>." : Str)) ++ ("<lambda>" : Str)
def makers (K : PySem.W.Frag) (tf : List He.Defn) : List Maker := tf.map fun p => ((He.cT K p).1, (He.cT K p).2, lamName p.1)
def ndB : List Addr → Bool
  | [] => true
  | a :: r => !r.contains a && ndB r
theorem makers_ok {fa : List He.Fa} {fn : List He.DefD} {tf : List He.Defn} {ex : PySem.W.Frag → Bool} {w : World} {h : Heap} {K : PySem.W.Frag} (X : K.In h) (c : He.SaysX fa fn [] tf ex w h K) :
    (∀ q ∈ makers K tf, h.get? q.2.1 = some tabO) ∧ (∀ q ∈ makers K tf, K.lookup q.2.1 = none) ∧ ∀ q ∈ makers K tf, PySem.W.CodeHd h q.1 q.2.1 := by
  refine ⟨fun q hq => ?_, fun q hq => ?_, fun q hq => ?_⟩
  · obtain ⟨p, hp, rfl⟩ := List.mem_map.mp hq
    exact c.empty p hp
  · obtain ⟨p, hp, rfl⟩ := List.mem_map.mp hq
    exact c.out p hp
  · obtain ⟨p, hp, rfl⟩ := List.mem_map.mp hq
    exact PySem.W.codeHd_of_K X (c.hd p hp)
end
end AP

namespace AP
noncomputable section
open PySem PySem.Spec PyProof.Rows L2 RZ
section
variable [Tbls] [Gd]
def fdO (cs : List Int) (n l w : Int) : MO := .k (fdl (.list (cs.map .int)) (.int n) (.int l) (.int w))
def FeedOk (fo : MO) : Prop := ∃ cs n l w, fo = fdO cs n l w
theorem FeedOk.fl {fo : MO} (h : FeedOk fo) : flat fo = true := by
  obtain ⟨cs, n, l, w, rfl⟩ := h
  rfl
theorem FeedOk.rf {fo : MO} (h : FeedOk fo) (n : Nat) : refs1 n fo = true := by
  obtain ⟨cs, n, l, w, rfl⟩ := h
  rfl
theorem lay_ints : ∀ xs : List Int, PyData.canLayAll0 (xs.map .int) = true
  | [] => by simp [PyData.canLayAll0]
  | x :: xs => by simp [PyData.canLayAll0, PyData.canLay0, lay_ints xs]
theorem deep_ints : ∀ xs : List Int, PyData.depthAll (xs.map .int) = 0
  | [] => by simp [PyData.depthAll]
  | x :: xs => by simp [PyData.depthAll, PyData.depth, deep_ints xs]
theorem shapes_ints (xs : List Int) : shp (.list (xs.map .int)) = true := shp_of (by simp [PyData.canLay0, lay_ints]) (by simp [PyData.depth, deep_ints])
theorem shapes_nil : shp (.list []) = true := by decide +kernel
theorem ne_nil : gNe (.list (([] : List Int).map .int)) (.list []) = some (.bool false) := rfl
theorem ne_ints (c : Int) (cs : List Int) : gNe (.list ((c :: cs).map .int)) (.list []) = some (.bool true) := by
  unfold gNe
  simp only [shapes_ints, shapes_nil, Bool.and_self, if_true, PyData.eqv]
  simp only [List.map_cons, PyData.eqvAll, Bool.not_false]
theorem atI_mem {α : Type} {xs : List α} {i : Int} (h0 : 0 ≤ i) (h1 : i < xs.length) : ∃ x, atI xs i = some x ∧ x ∈ xs ∧ xs[i.toNat]? = some x := by
  have hl : i.toNat < xs.length := by omega
  refine ⟨xs[i.toNat], ?_, List.getElem_mem hl, List.getElem?_eq_getElem hl⟩
  unfold atI ixN
  rw [if_pos h0, if_pos h1]
  show xs[i.toNat]? = _
  exact List.getElem?_eq_getElem hl
theorem cell_in (cs : List Int) {i : Int} (h0 : 0 ≤ i) (h1 : i < cs.length) : ∃ c, gIx (.list (cs.map .int)) (.int i) = some (.int c) := by
  obtain ⟨x, e, m, _⟩ := atI_mem (xs := cs.map PyData.int) h0 (by simpa using h1)
  obtain ⟨c, _, rfl⟩ := List.mem_map.mp m
  exact ⟨c, e⟩
theorem pow18 : gPow (.int 10) (.int 18) = some (.int 1000000000000000000) := rfl
theorem mod_e {i j : Int} (h : 0 < j) : gMod (.int i) (.int j) = some (.int (i % j)) := by simp only [gMod, g2I, h, decide_true, if_true]
theorem div_e {i j : Int} (h : 0 < j) (h1 : j < 1073741824) : gDiv (.int i) (.int j) = some (.int (i / j)) := by simp only [gDiv, g2I, h, h1, decide_true, Bool.and_self, if_true]
theorem mul_l {a b : Int} (h1 : -18446744073709551616 < a) (h2 : a < 18446744073709551616) : gMul (.int a) (.int b) = some (.int (a * b)) := by
  unfold gMul g2I
  simp only [Int.reducePow, Int.reduceNeg, decide_eq_true h1, decide_eq_true h2, Bool.and_self, Bool.true_or, if_true]
structure DC where
  c0 : Int
  m1 : Int
  a1 : Int
  b1 : Int
  m2 : Int
  a2 : Int
  b2 : Int
  m3 : Int
  a3 : Int
  m4 : Int
def DC.ok (k : DC) : Bool := decide (0 < k.m1) && (decide (0 < k.m2) && (decide (k.m2 < 4294967296) && (decide (0 < k.m3) && (decide (k.m3 < 4294967296) && (decide (0 < k.m4) && (decide (-4294967296 < k.a1) && (decide (k.a1 < 4294967296) && (decide (-4294967296 < k.a2) && (decide (k.a2 < 4294967296) && (decide (-4294967296 < k.a3) && decide (k.a3 < 4294967296)))))))))))
theorem st0_7 (x y : SV) : st0 7 [x, y] = [some x, some y, none, none, none, none, none] := rfl
end
end
end AP

namespace AP
noncomputable section
open PySem PySem.Spec PyProof.Rows L2 RZ
section
variable [Tbls] [Gd]
end
end
end AP

namespace AP
noncomputable section
open PySem PySem.Spec PyProof.Rows L2 RZ
section
variable [Tbls] [Gd]
def menus8 : List (List Str) := [["a", "b", "c", "d", "e", "f", "g", "h"].map Str.ofString, ["houses", "none", "ab", "aba", "b", "ba", "abc", "lay"].map Str.ofString, ["zzzzzzzz", "zzzzzzza", "z", "zz", "y", "yz", "x", "give"].map Str.ofString]
def turned : List (List Str) := menus8.flatMap fun m => (List.range 8).map fun k => m.drop k ++ m.take k
end
end
end AP

namespace AP
noncomputable section
open PySem PySem.Spec PyProof.Rows L2 RZ
section
variable [Tbls] [Gd]
def noZ : Zs := fun _ => False
theorem Rt.low {Z : Zs} {H : Hp} {v : V} {d : D} (h : Rt Z H v d) : Rp noZ H v d := by
  have lo : ∀ {xs : List V} {ds : List D}, RpA Z H xs ds → RpA noZ H xs ds := fun r => r.mono fun a o _ e _ => ⟨fun z => z, e⟩
  have lk : ∀ {xs : List (Key × V)} {ds : List (D × D)}, RpK Z H xs ds → RpK noZ H xs ds := fun r => r.mono fun a o _ e _ => ⟨fun z => z, e⟩
  cases d with
  | none => cases h; exact .non
  | bool b => cases h; exact .bl b
  | int i => cases h; exact .int i
  | str x => cases h; exact .str x
  | list ds => obtain ⟨a, xs, rfl, e, r⟩ := h; exact .lst (fun z => z) e (lo r)
  | tuple ds => obtain ⟨a, xs, rfl, e, r, _⟩ := h; exact .tup (fun z => z) e (lo r)
  | dict ps => obtain ⟨a, xs, rfl, e, r⟩ := h; exact .dct (fun z => z) e (lk r)
theorem RtA.low {Z : Zs} {H : Hp} : ∀ {vs : List V} {ds : List D}, RtA Z H vs ds → RpA noZ H vs ds
  | _, _, .nil => .nil
  | _, _, .cons h r => .cons h.low (RtA.low r)
def flatD : D → Bool
  | .none => true
  | .bool _ => true
  | .int _ => true
  | .str _ => true
  | _ => false
theorem Rp.flat {Z Z' : Zs} {H : Hp} {v : V} {d : D} (h : Rp Z H v d) (f : flatD d = true) : Rp Z' H v d := by
  cases h with
  | non => exact .non
  | bl b => exact .bl b
  | int i => exact .int i
  | str x => exact .str x
  | _ => cases f
end
end
end AP

namespace AP
noncomputable section
open PySem PySem.Spec PyProof.Rows L2 RZ
variable [Tbls] [Gd]
def gEi (K : PySem.W.Frag) (n : Nat) (t : TGs) : TG := fun v σ H Q => gTup K n t v σ H Q ∨ gLst K n t v σ H Q
theorem pg_ei {X : Cx} {pos : Pos} {es : List Expr} {k : Nat} {t : TGs} {n : Nat} (hc : X.calm = true) (h : PGs X es t)
    (hn : (assignEach es X.env).length = n := by rfl) (hst : (assignEach es X.env).findIdx? (·.1) = none := by rfl) : PG X (.Tuple es k pos) (gEi X.K n t) := by
  refine ⟨fun pins s σ H v u Q I r hw => ?_⟩
  rcases hw with z | z
  · exact (pg_tup hc h hn hst).run pins s σ H v u Q I r z
  · exact (pg_lst hc h hn hst).run pins s σ H v u Q I r z
def mgSeq (n : Nat) (a : GMs) : GM := fun v s => match v with
  | .d (.tuple ds) => if ds.length = n then a ds s else none
  | .d (.list ds) => if ds.length = n then a ds s else none
  | _ => none
theorem sg_seq {K : PySem.W.Frag} {n : Nat} {t : TGs} {a : GMs} (ha : SnGs t a) : SnG (gEi K n t) (mgSeq n a) := by
  intro Z M s σ H h v sv r s' e Q q
  unfold mgSeq at e
  split at e
  · exact .inl (sg_tup (K := K) (n := n) ha Z M s σ H h v _ r s' e Q q)
  · rename_i ds
    split at e
    · rename_i hl
      have r2 : Rp (zz Z M) H v (.list ds) := r
      cases r2 with
      | lst z ha2 ra => exact .inr ⟨_, _, rfl, SqL.of ha2, by rw [ra.length]; exact hl, ha Z M s σ H h _ ds ra s' e Q q⟩
    · cases e
  · cases e
section
variable {X : Cx} {W : WX}
end
section
variable {Y : Cx} {E : XK} {e : Expr} {es : List Expr} {ps : List Str} {sp : Sp} {x : Str} {f : Addr} {fd : FuncData} {j k : Nat} {t : TA} {p pos : Pos}
omit [Gd] in
omit [Gd] in
end
end
end AP

namespace AP
noncomputable section
open PySem PySem.Spec PyProof.Rows L2 RZ
variable [Tbls] [Gd]
def rSortT (K : PySem.W.Frag) : List V → Hp → VK → Prop := fun vs H Q => ∃ (a : Addr) (ks : List Str), vs = [.ref a] ∧ SqT K H a (ks.map V.str) ∧ ks.length < 64 ∧
  ∀ ys p, ys.Perm ks → sortedS ys = true → H p = none → Q (.ref p) (upd H p (.lst (ys.map V.str)))
theorem cr_sortTup {X : Cx} (hcalm : X.calm = true) : CallR X (.builtin "sorted") (rSortT X.K) := by
  intro pins s σ H vs us Q I r q
  obtain ⟨a, ks, ex, hq, h64, q⟩ := q
  subst ex
  obtain ⟨u, eu, rx⟩ := vals1 r
  subst eu
  cases rx
  obtain ⟨its, rv, pl, hz⟩ := I.tuple hq
  have hS : StrsAre its ks := rv.strs
  have hal : its.length = ks.length := by have := rv.length; rw [List.length_map] at this; exact this.symm
  obtain ⟨o, ho, hc, n, hd⟩ := pl
  refine Calls.call_function_entry PyProof.Rows.kind_sorted PyProof.Rows.plain_sorted PyProof.Rows.entry_sorted (PyProof.Rows.args_sorted1 _) ?_
  unfold Builtin.«sorted»
  refine wpAny_bind (m := checkCount "sorted" 1 1 _) (wpAny_pure ?_)
  refine wpAny_bind (wpAny_collect_seq a (.inr rfl) ho hc hd (fun h' hk => ?_) (by simpa [hal] using small64 h64))
  have I1 : Inv X pins σ H { s with heap := h', toks := s.toks } := I.kept hk
  have e0 : its.toArray.toList = its := by simp
  rw [e0]
  refine wpAny_bind (wpAny_newList ?_ (by rw [hal, sizeLine_eq]; omega))
  have hoL : (h'.push (seqObj "list" its.toArray 0)).get? h'.objs.size = some (seqObj "list" its.toArray 0) := Heap.get?_push_size _ rfl
  show wpAny _ _ _ _ _ { s with heap := h'.push (seqObj "list" its.toArray 0), toks := s.toks }
  refine wpAny_bind (wpAny_holding (wpAny_call_entry PyProof.Rows.slot_list_sort ⟨_, hoL, rfl⟩ PyProof.Rows.entry_list_sort
    (list_sort_treeK strKind_oneLt (s := { s with heap := h'.push (seqObj "list" its.toArray 0), toks := s.toks }) hoL hS.keysOf (fun v₁ v₂ rest e => keyKind_strs (by rw [← e]; exact hS)) (by rw [hal]; exact h64) fun st' hp hs => ⟨_, rfl, ?_⟩)
    (PyProof.Rows.args_list_sort _)))
  obtain ⟨ys, g1, g2, g3⟩ := sorted_out_str hS hp hs
  obtain ⟨e', he'⟩ := PyProof.Rows.sortedHeap_at (vs := its) (out := (arrOf st').map (·.2)) hoL
  have hlen : (ys.map V.str).length ≤ sizeLine := by rw [List.length_map, g2.length_eq]; exact small64 h64
  refine wpAny_pure ⟨_, rfl, .ref h'.objs.size, upd H h'.objs.size (.lst (ys.map V.str)), I1.laid (t' := s.toks) (fun b u e => ?_) (Nat.le_refl _)
    (show ObjOk X.prog X.w _ _ _ (.lst (ys.map V.str)) from ⟨hlen, ((arrOf st').map (·.2)).toList, e', vals_of_strs g1, by rw [Array.toArray_toList]; exact he'⟩), rfl, q ys _ g2 g3 (I1.hok.fresh (Nat.le_refl _))⟩
  have hb : b < h'.objs.size := Heap.lt_size e
  rw [PyProof.Rows.sortedHeap_old (Nat.ne_of_lt hb) (by rw [size_push']; exact Nat.lt_succ_of_lt hb)]
  exact Heap.get?_push_of_some _ e
def rSortW (K : PySem.W.Frag) : List V → Hp → VK → Prop := fun xs H Q => rSortU K xs H Q ∨ rSortT K xs H Q
theorem cr_sortW {X : Cx} (hc : X.calm = true) : CallR X (.builtin "sorted") (rSortW X.K) := (cr_sortU hc).or (cr_sortTup hc)
def gSortedW : List D → Option D
  | [.tuple ds] => (match strsOf ds with
    | some ks => if ks.length < 64 then some (.list ((sortS ks).map .str)) else none
    | none => none)
  | ds => gSortedU ds
theorem rc_sortedW {K : PySem.W.Frag} : RCD (rSortW K) gSortedW := by
  intro Z H hz vs ds d r e Q q
  unfold gSortedW at e
  split at e
  · split at e
    · rename_i ks hk
      split at e
      · rename_i h64
        cases e
        cases r with
        | cons h t =>
          cases t
          obtain ⟨a, us, rfl, ha, ra, nz⟩ := h
          obtain ⟨rfl, _⟩ := strsOf_ok ra hk
          refine .inr ⟨a, ks, rfl, ha.sq, h64, fun ys p hp hs hn => ?_⟩
          obtain rfl := sortS_only hp hs
          exact q _ _ (New.upd hn) (.lst (fresh_nz hz hn) upd_same (rpA_strs _))
      · cases e
    · cases e
  · exact .inl (rc_sortedU Z H hz vs _ d r e Q q)
end
end AP

namespace AP
noncomputable section
open PySem PySem.Spec PyProof.Rows L2 RZ
section
variable {prog : Program} {w : World} {A : Around} {E : Value → Shared → Prop} {s : Shared}
theorem sliceApplied_rev {sl : Addr} {vs : Value} {n : Nat} {Q : Int × Int × Nat → Shared → Prop} (hs : s.heap.IsSliceOf sl .none .none vs) (ps : IsPart vs (some (-1)))
    (h : Q (((n : Nat) : Int) - 1, -1, n) s) : wpAny (model prog w) A (Builtin.Slice.sliceApplied (.ref sl) (pure (n : Int))) Q E s := by
  obtain ⟨os, hos, hcs, hds⟩ := id hs
  unfold Builtin.Slice.sliceApplied Builtin.Slice.sliceFields
  refine wpAny_bind (wpAny_bind (wpAny_field hos hds (x := .none) rfl (wpAny_bind (wpAny_field hos hds (x := .none) rfl (wpAny_bind (wpAny_field hos hds (x := vs) rfl (wpAny_pure ?_)))))))
  refine wpAny_bind (HT.slicePart_ ps ?_)
  show wpAny _ _ (if ((-1 : Int) == 0) = true then _ else _) _ _ s
  rw [if_neg (by decide)]
  refine wpAny_bind (HT.slicePart_ .none (wpAny_bind (HT.slicePart_ .none (wpAny_bind (wpAny_pure ?_)))))
  show wpAny _ _ (match Builtin.Slice.sliceAdjust none none (-1) (n : Int) with | (lo, hi) => pure (lo, (-1 : Int), Builtin.Slice.slicePlaces lo hi (-1))) _ _ s
  have e1 : Builtin.Slice.sliceAdjust none none (-1) (n : Int) = (((n : Nat) : Int) - 1, -1) := by
    simp [Builtin.Slice.sliceAdjust]
  rw [e1]
  have e2 : Builtin.Slice.slicePlaces (((n : Nat) : Int) - 1) (-1) (-1) = n := by
    unfold Builtin.Slice.slicePlaces
    simp
    try omega
  show wpAny _ _ (pure (((n : Nat) : Int) - 1, (-1 : Int), Builtin.Slice.slicePlaces (((n : Nat) : Int) - 1) (-1) (-1))) _ _ s
  rw [e2]
  exact wpAny_pure h
theorem fm_congr {α β : Type} {f g : α → Option β} : ∀ {l : List α}, (∀ x ∈ l, f x = g x) → l.filterMap f = l.filterMap g
  | [], _ => rfl
  | a :: r, h => by rw [List.filterMap_cons, List.filterMap_cons, h a List.mem_cons_self, fm_congr fun x hx => h x (List.mem_cons_of_mem _ hx)]
theorem pick_rev (xs : Array Value) : ((List.range xs.size).filterMap fun (m : Nat) => xs[((((xs.size : Nat) : Int) - 1) + (m : Int) * (-1)).toNat]?).toArray = xs.toList.reverse.toArray := by
  have e : ∀ m ∈ List.range xs.size, xs[((((xs.size : Nat) : Int) - 1) + (m : Int) * (-1)).toNat]? = xs.toList.reverse.toArray[(((0 : Nat) : Int) + (m : Int) * 1).toNat]? := by
    intro m hm
    have h1 : m < xs.size := List.mem_range.mp hm
    have h2 : ((((xs.size : Nat) : Int) - 1) + (m : Int) * (-1)).toNat = xs.size - 1 - m := by omega
    have h3 : (((0 : Nat) : Int) + (m : Int) * 1).toNat = m := by omega
    rw [h2, h3, ← Array.getElem?_toList, ← Array.getElem?_toList]
    show xs.toList[xs.size - 1 - m]? = xs.toList.reverse[m]?
    rw [List.getElem?_reverse (by simpa using h1), Array.length_toList]
  rw [fm_congr e, HT.pick_gen xs.toList.reverse.toArray 0 xs.size]
  have h4 : (xs.toList.reverse.toArray.toList.drop 0).take xs.size = xs.toList.reverse := by
    rw [List.drop_zero]
    exact List.take_of_length_le (by simp)
  rw [h4]
theorem getItem_tuple_rev {t sl : Addr} {items : Array Value} {vs : Value} {Q : Value → Shared → Prop} (ht : IsTup s.heap t items) (hs : s.heap.IsSliceOf sl .none .none vs) (ps : IsPart vs (some (-1)))
    (h : Q (.ref s.heap.objs.size) { s with heap := s.heap.push { cls := .type "tuple", data := .seq items.toList.reverse.toArray } })
    (hsz : items.size ≤ sizeLine) : wpAny (model prog w) A (getItem (.ref t) (.ref sl)) Q E s := by
  have htake : sizeOk (.seq items.toList.reverse.toArray) := by
    show items.toList.reverse.toArray.size ≤ sizeLine
    simpa using hsz
  obtain ⟨os, hos, hcs, hds⟩ := id hs
  have hTs : s.TypeIs (.ref sl) "slice" := ⟨os, hos, hcs⟩
  unfold getItem
  try with_reducible refine wpAny_holding ?_
  first | refine wpAny_bind (wpAny_pure ?_) | skip
  refine wpAny_bind (wpAny_sequenceKey ht.typeIs (by decide) ?_)
  refine wpAny_bind (wpAny_callSpecial?_slot (name := Str.ofString "__getitem__") ht.typeIs PyProof.Rows.slot_tuple_getitem
    (wpAny_call_entry PyProof.Rows.slot_tuple_getitem ht.typeIs PyProof.Rows.entry_tuple_getitem ?_ (PyProof.Rows.args_tuple_getitem _ _)))
  show wpAny _ _ (Builtin.Tuple.tupleItemsOf (.ref t) >>= _) _ _ s
  refine wpAny_bind (PyProof.Rows.tupleItemsOf_ ht ?_)
  refine wpAny_bind (wpAny_typeOf hTs ?_)
  rw [if_pos (by decide)]
  refine wpAny_bind (sliceApplied_rev hs ps ?_)
  have hno : ¬ (((((items.size : Nat) : Int) - 1) == 0 && (-1 : Int) == 1 && items.size == items.size) = true) := by
    intro q
    rw [Bool.and_eq_true, Bool.and_eq_true] at q
    exact absurd q.1.2 (by decide)
  show wpAny _ _ (if ((((items.size : Nat) : Int) - 1) == 0 && (-1 : Int) == 1 && items.size == items.size) = true then _ else _) _ _ s
  rw [if_neg hno, pick_rev]
  first
    | exact wpAny_bind (m := Builtin.Tuple.tupleExact _) (wpAny_newObj_type (wpAny_pure ⟨_, rfl, wpAny_pure h⟩) htake)
    | exact wpAny_bind (m := Builtin.Tuple.tupleExact _) (wpAny_newObj_type (wpAny_bind (wpAny_pure (wpAny_pure ⟨_, rfl, wpAny_pure h⟩))) htake)
    | exact wpAny_bind (wpAny_bind (m := Builtin.Tuple.tupleExact _) (wpAny_newObj_type (wpAny_pure (wpAny_pure ⟨_, rfl, wpAny_pure h⟩)) htake))
    | exact wpAny_bind (wpAny_bind (m := Builtin.Tuple.tupleExact _) (wpAny_newObj_type (wpAny_pure ⟨_, rfl, wpAny_pure h⟩) htake))
end
section
variable {X : Cx}
theorem pe_revT {e : Expr} {te : TE} {k : Nat} {p1 p2 p3 pos : Pos} (he : PE X e te) : PE X (.Subscript e (.Slice none none (some (.UnaryOp .USub (.Constant (.int 1) k p1) p2)) p3) pos) (fun σ H Q => te σ H fun x H1 => ∃ a xs, x = .ref a ∧ SqT X.K H1 a xs ∧ nTup xs.reverse H1 Q) := by
  refine ⟨fun pins s σ H Q I h => ?_⟩
  refine Subscript_ (thn (he.run pins s σ H _ I h) fun v s1 ⟨x, H1, I1, r1, q1⟩ => ?_)
  obtain ⟨a, xs, ex, hx, q⟩ := q1
  subst ex
  cases r1
  have hst : PO X (some (.UnaryOp .USub (.Constant (.int 1) k p1) p2)) (tPart (tUn (rU fun i => .int (-i)) (tC (.int 1)))) := po_some (pe_un un_neg pe_int)
  refine wpAny_Slice (thn (po_none.run pins s1 σ H1 (fun o H2 => o = none ∧ H2 = H1) I1 ⟨rfl, rfl⟩) fun vl s2 ⟨l, H2, I2, pl, el, e2⟩ => ?_)
  subst el e2
  refine thn (po_none.run pins s2 σ H2 (fun o H3 => o = none ∧ H3 = H2) I2 ⟨rfl, rfl⟩) fun vu s3 ⟨u, H3, I3, pu, eu, e3⟩ => ?_
  subst eu e3
  refine thn (hst.run pins s3 σ H3 (fun o H4 => o = some (-1) ∧ H4 = H3) I3 ⟨1, rfl, -1, rfl, rfl, rfl⟩) fun vs s4 ⟨o, H4, I4, ps, eo, e4⟩ => ?_
  subst eo e4
  cases pl
  cases pu
  have I5 : L2.Inv X pins σ H4 { s4 with heap := s4.heap.push { cls := .type "slice", data := .fields #[.none, .none, vs] } } := I4.kept (t' := s4.toks) fun b ob q => Heap.get?_push_of_some _ q
  obtain ⟨its, r, ht, hz⟩ := I5.tuple hx
  have hlen := r.length
  show wpAny (model X.prog X.w) X.A (subscriptTail e (.Slice none none (some (.UnaryOp .USub (.Constant (.int 1) k p1) p2)) p3) (.ref a) (.ref s4.heap.objs.size)) (EP X pins σ Q) X.xe { s4 with heap := s4.heap.push { cls := .type "slice", data := .fields #[.none, .none, vs] } }
  refine tail_any (ops := [.ref a, .ref s4.heap.objs.size]) ht.typeIs (PyProof.Rows.slot_tuple_getitem.lookup) ?_ (by with_unfolding_all rfl)
  refine getItem_tuple_rev ht (Heap.IsSliceOf.new _ .none .none vs) ps ?_ (by rw [List.size_toArray]; omega)
  have z := laidTup (Q := Q) (h' := s4.heap.push { cls := .type "slice", data := .fields #[.none, .none, vs] }) (tk := s4.toks) I5 r.reverse (by rw [List.length_reverse]; exact hz) q
  simpa using z
theorem PE.or2 {e : Expr} {t t' : TE} (h : PE X e t) (h' : PE X e t') : PE X e (fun σ H Q => t σ H Q ∨ t' σ H Q) :=
  ⟨fun pins s σ H Q I q => q.elim (h.run pins s σ H Q I) (h'.run pins s σ H Q I)⟩
def tRevW (K : PySem.W.Frag) (te : TE) : TE := fun σ H Q => tRevL K te σ H Q ∨ te σ H fun x H1 => ∃ a xs, x = .ref a ∧ SqT K H1 a xs ∧ nTup xs.reverse H1 Q
theorem pe_revW {e : Expr} {te : TE} {k : Nat} {p1 p2 p3 pos : Pos} (he : PE X e te) : PE X (.Subscript e (.Slice none none (some (.UnaryOp .USub (.Constant (.int 1) k p1) p2)) p3) pos) (tRevW X.K te) := PE.or2 (pe_revL he) (pe_revT he)
def tyF (K : PySem.W.Frag) (T : String) (x : V) (H : Hp) : Prop := tyV K T x H ∨ (T = "tuple" ∧ ∃ p o xs, x = .ref p ∧ H p = some (.frz o (.tup xs)) ∧ o.dict = none)
theorem tyF_is {pins : List (Addr × Obj)} {σ : L2.St} {H : Hp} {s : Shared} {T : String} {x : V} {v : Value} (I : L2.Inv X pins σ H s) (r : RelV x v) (ty : tyF X.K T x H) :
    s.TypeIs v T ∧ ∀ a, v = .ref a → ∃ ob, s.heap.get? a = some ob ∧ ob.dict = none := by
  rcases ty with ty | ⟨rfl, p, o, xs, rfl, hp, hd⟩
  · exact tyV_is I r ty
  · cases r
    obtain ⟨its, rv, ht, hz⟩ := I.tuple (a := p) (xs := xs) (.inl (.inr ⟨o, hp⟩))
    refine ⟨ht.typeIs, fun a e => ?_⟩
    cases e
    obtain ⟨hg, _⟩ := I.hok p _ hp
    exact ⟨o, hg, hd⟩
def tBMF (K : PySem.W.Frag) (T : String) (r : V → List V → Hp → VK → Prop) (to : TE) (t : TA) : TE := fun σ H Q => to σ H fun x H1 => tyF K T x H1 ∧ t σ H1 fun xs H2 => r x xs H2 Q
theorem pe_bmF {o e : Expr} {es : List Expr} {to : TE} {t : TA} {name : Str} {apos cpos : Pos} {T id : String} {r : V → List V → Hp → VK → Prop} (pa : PlainAttrs T) (slot : Slot T name id) (hty : typeOf (.builtin id) = pure (.type "method_descriptor")) (hm : MtR X id r) (ho : PE X o to) (ha : PA X (e :: es) t)
    (hbase : attributeBase o name X.env (eval o X.env) = eval o X.env := by rfl)
    (hfew : ((backTo cpos (starEach (e :: es) X.env)).all (fun x => !x.1) && (backToKw cpos (keywordEach [] X.env)).all (fun x => x.1.isSome)
      && decide ((e :: es).length + ([] : List Keyword).length + (if ([] : List Keyword).isEmpty then 0 else 1) < 30)) = true := by rfl)
    (hline : (apos.endLine == cpos.line) = true := by rfl) (hs : starEach (e :: es) X.env = (false, eval e X.env) :: starEach es X.env := by rfl) (hplain : (backTo cpos (starEach es X.env)).any (·.1) = false := by rfl) :
    PE X (.Call (.Attribute o name apos) (e :: es) [] cpos) (tBMF X.K T r to t) := by
  refine ⟨fun pins s σ H Q I h => ?_⟩
  refine wpAny_Call_method_late hbase hfew hline rfl (thn (ho.run pins s σ H _ I h) fun v s1 ⟨x, H1, I1, r1, ty, q1⟩ => ?_)
  obtain ⟨h1, h2⟩ := tyF_is I1 r1 ty
  refine ⟨T, id, pa, slot, hty, h1, h2, ?_⟩
  have hA := ha.run cpos pins s1 σ H1 _ I1 q1
  rw [hs] at hA ⊢
  refine Calls.callWith_builtin (by show (false || (backTo cpos (starEach es X.env)).any (·.1)) = false; rw [hplain] <;> rfl) (Calls.evalArgs_plain ?_)
  exact thn hA fun us s2 ⟨vs, H2, I2, r2, q2⟩ => hm pins s2 σ H2 x vs v us Q I2 r1 r2 q2
def cntD (ds : List D) (d : D) : Nat := ds.countP fun y => PyData.eqv y d
theorem count_of {s : Shared} {its : List Value} {ds : List D} {d : D} (hmap : its.map (SeqAt.readOf s.heap) = ds) : its.toArray.toList.countP (fun u => PyData.eqv (SeqAt.readOf s.heap u) d) = cntD ds d := by
  unfold cntD
  rw [← hmap, List.countP_map]
  rfl
def rCntT (K : PySem.W.Frag) : V → List V → Hp → VK → Prop := fun x xs H Q => ∃ (a : Addr) (y : V) (d : PyData) (ds : List PyData), x = V.ref a ∧ xs = [y] ∧ Dp K H (V.ref a) (.tuple ds) ∧ Dp K H y d ∧
  SeqAt.shaped (.tuple ds) = true ∧ SeqAt.shaped d = true ∧ Q (.int (cntD ds d : Nat)) H
theorem mt_cntT (hu : X.A.units + 65 < cLine) : MtR X "tuple.count" (rCntT X.K) := by
  intro pins s σ H x xs v us Q I rx rxs h
  obtain ⟨a, y, d, ds, rfl, rfl, hl, hy, sl, sd, q⟩ := h
  cases rx
  cases rxs with
  | cons ry rt =>
    rename_i uy ut
    cases rt
    obtain ⟨bs, r1⟩ := Dp.reads I d y uy hy ry
    have hxs : PyData.canLayAll0 ds = true := SeqAt.canLay_of_shaped sl
    have hroom : X.A.units + 1 + min (PyData.depthAll ds) d.depth < cLine := room_in_shaped sd hu
    cases hl with
    | tup hs ha =>
      obtain ⟨its, rv, ⟨⟨cls, dd, data, sls⟩, ho, hc, n, hdt⟩, hlen⟩ := I.tuple hs
      simp only at hc hdt
      subst hc hdt
      obtain ⟨as, h4⟩ := Dp.readsAll I ds _ its ha rv
      have hmap : its.map (SeqAt.readOf s.heap) = ds := SeqAt.readsAll_map ds its as hxs h4
      refine call_meets PySem.F.slot_tuple_count ⟨_, ho, rfl⟩ PySem.F.entry_tuple_count (PySem.F.args_tuple_count_2 _ _)
        (SeqAt.tuple_countAt a its.toArray n dd sls uy (fun u => PyData.eqv (SeqAt.readOf s.heap u) d)) ⟨ho, SeqAt.items_eqAt (vs := its.toArray) (show ReadsAll s.heap its.toArray.toList ds as from h4) r1 hxs (SeqAt.canLay_of_shaped sd) hroom, ?_⟩
      rw [count_of hmap]
      exact ⟨.int (cntD ds d : Nat), H, I.tok _, ⟨_, rfl⟩, q⟩
def rCntL (K : PySem.W.Frag) : V → List V → Hp → VK → Prop := fun x xs H Q => ∃ (a : Addr) (y : V) (d : PyData) (ds : List PyData), x = V.ref a ∧ xs = [y] ∧ Dp K H (V.ref a) (.list ds) ∧ Dp K H y d ∧
  SeqAt.shaped (.list ds) = true ∧ SeqAt.shaped d = true ∧ Q (.int (cntD ds d : Nat)) H
theorem mt_cntL (hu : X.A.units + 65 < cLine) : MtR X "list.count" (rCntL X.K) := by
  intro pins s σ H x xs v us Q I rx rxs h
  obtain ⟨a, y, d, ds, rfl, rfl, hl, hy, sl, sd, q⟩ := h
  cases rx
  cases rxs with
  | cons ry rt =>
    rename_i uy ut
    cases rt
    obtain ⟨bs, r1⟩ := Dp.reads I d y uy hy ry
    have hxs : PyData.canLayAll0 ds = true := SeqAt.canLay_of_shaped sl
    have hroom : X.A.units + 1 + min (PyData.depthAll ds) d.depth < cLine := room_in_shaped sd hu
    cases hl with
    | lst hs ha =>
      obtain ⟨its, rv, ⟨⟨cls, dd, data, sls⟩, n, ho, hc, hdn, hdt⟩, hlen⟩ := I.list hs
      simp only at hc hdt
      subst hc hdt
      obtain ⟨as, h4⟩ := Dp.readsAll I ds _ its ha rv
      have hmap : its.map (SeqAt.readOf s.heap) = ds := SeqAt.readsAll_map ds its as hxs h4
      refine call_meets PySem.F.slot_list_count ⟨_, ho, rfl⟩ PySem.F.entry_list_count (PySem.F.args_list_count_2 _ _)
        (SeqAt.list_countAt a its.toArray n dd sls uy (fun u => PyData.eqv (SeqAt.readOf s.heap u) d)) ⟨ho, SeqAt.items_eqAt (vs := its.toArray) (show ReadsAll s.heap its.toArray.toList ds as from h4) r1 hxs (SeqAt.canLay_of_shaped sd) hroom, ?_⟩
      rw [count_of hmap]
      exact ⟨.int (cntD ds d : Nat), H, I.tok _, ⟨_, rfl⟩, q⟩
end
end
end AP

namespace AP
noncomputable section
open PySem PySem.Spec PyProof.Rows L2 RZ
variable [Tbls] [Gd]
theorem RpA.rev {Z : Zs} {H : Hp} : ∀ {us : List V} {xs : List D}, RpA Z H us xs → RpA Z H us.reverse xs.reverse
  | _, _, .nil => .nil
  | _, _, .cons h r => by
    rw [List.reverse_cons, List.reverse_cons]
    exact r.rev.append (.cons h .nil)
def mRev (a : EM) : EM := fun s => match a s with
  | none => none
  | some (x, o1) => match vw o1 x with
    | some (.list ds) => some (.d (.list ds.reverse), o1)
    | some (.tuple ds) => some (.d (.tuple ds.reverse), o1)
    | _ => none
theorem sn_rev {K : PySem.W.Frag} {ta : TE} {a : EM} (ha : Sn ta a) : Sn (tRevW K ta) (mRev a) := by
  intro Z M s σ H h w o' e Q q
  unfold mRev at e
  split at e
  · cases e
  · rename_i x o1 ea
    split at e
    · rename_i ds w0
      cases e
      refine .inl (ha Z M s σ H h _ _ ea _ fun M1 v1 H1 e1 h1 r1 => ?_)
      obtain ⟨a, us, rfl, hb, ra⟩ := vw_ok h1.r r1 w0
      refine ⟨a, us, rfl, SqL.of hb, fun p hp => ?_⟩
      have n := New.upd (o := .lst us.reverse) hp
      exact q M1 _ _ (e1.trans (Ex2.new n)) (h1.new n) (.lst (fresh_nz h1.r.zzd hp) upd_same (ra.rev.new n))
    · rename_i ds w0
      cases e
      refine .inr (ha Z M s σ H h _ _ ea _ fun M1 v1 H1 e1 h1 r1 => ?_)
      obtain ⟨a, us, rfl, hb, ra, _⟩ := vw_ok h1.r r1 w0
      refine ⟨a, us, rfl, hb.sq, fun p ob hp ho => ?_⟩
      have n := New.upd (o := .frz ob (.tup us.reverse)) hp
      exact q M1 _ _ (e1.trans (Ex2.new n)) (h1.new n) (.tup (fresh_nz h1.r.zzd hp) (TupAt.new ho) (ra.rev.new n))
    · cases e
def mBM (ok : D → Bool) (g : D → D → Option D) (a b : EM) : EM := fun s => match a s with
  | none => none
  | some (x, o1) => match vw o1 x with
    | none => none
    | some d0 => if ok d0 = true then (match b (s.on o1) with
      | none => none
      | some (y, o2) => match vw o2 x, vw o2 y with
        | some d1, some d2 => (match g d1 d2 with
          | some d => some (.d d, o2)
          | none => none)
        | _, _ => none) else none
theorem sn_bm {K : PySem.W.Frag} {T : String} {r : V → List V → Hp → VK → Prop} {ok : D → Bool} {g : D → D → Option D} {ta tb : TE} {a b : EM} (ht : ∀ Z H v d, Rt Z H v d → ok d = true → tyF K T v H) (hr : RMD r g) (ha : Sn ta a) (hb : Sn tb b) :
    Sn (tBMF K T r ta (tCons tb tNil)) (mBM ok g a b) := by
  intro Z M s σ H h w o' e Q q
  unfold mBM at e
  split at e
  · cases e
  · rename_i x o1 ea
    split at e
    · cases e
    · rename_i d0 w0
      split at e
      · rename_i hok
        refine ha Z M s σ H h x o1 ea _ fun M1 v1 H1 e1 h1 r1 => ⟨ht _ _ _ _ (vw_ok h1.r r1 w0) hok, ?_⟩
        split at e
        · cases e
        · rename_i y o2 eb
          refine hb Z M1 (s.on o1) σ H1 h1 y o2 eb _ fun M2 v2 H2 e2 h2 r2 => ?_
          split at e
          · rename_i d1 d2 w1 w2
            split at e
            · rename_i d hd
              cases e
              refine hr (zz Z M2) H2 h2.r.zzd _ v2 d1 d2 d (vw_ok h2.r (e2.rv r1) w1) (vw_ok h2.r r2 w2) hd Q fun v H' n p => ?_
              exact q M2 v H' ((e1.trans e2).trans (Ex2.new n)) (h2.new n) p
            · cases e
          · cases e
      · cases e
def okTup : D → Bool
  | .tuple ds => !weakD ds
  | _ => false
def okLst : D → Bool
  | .list _ => true
  | _ => false
theorem ty_tup {K : PySem.W.Frag} : ∀ Z H v d, Rt Z H v d → okTup d = true → tyF K "tuple" v H := by
  intro Z H v d r h
  cases d with
  | tuple ds =>
    obtain ⟨a, xs, rfl, ha, _, _⟩ := r
    rcases ha with ⟨o, e, hd⟩ | ⟨w, _⟩
    · exact .inr ⟨rfl, a, o, xs, rfl, e, hd⟩
    · simp [okTup, w] at h
  | _ => simp [okTup] at h
theorem ty_lst {K : PySem.W.Frag} : ∀ Z H v d, Rt Z H v d → okLst d = true → tyF K "list" v H := by
  intro Z H v d r h
  cases d with
  | list ds =>
    obtain ⟨a, xs, rfl, ha, _⟩ := r
    exact .inl (.inl ⟨rfl, xs, SqL.of ha⟩)
  | _ => simp [okLst] at h
def gCntT : D → D → Option D
  | .tuple ds, d => if (shp d && shp (.tuple ds)) = true then some (.int (cntD ds d : Nat)) else none
  | _, _ => none
theorem rm_cntT {K : PySem.W.Frag} : RMD (rCntT K) gCntT := by
  intro Z H hz v1 v2 d1 d2 d r1 r2 e Q q
  unfold gCntT at e
  split at e
  · rename_i ds
    split at e
    · rename_i h
      cases e
      simp only [shp, Bool.and_eq_true] at h
      have r1' := r1
      obtain ⟨a, us, rfl, ha, ra, _⟩ := r1'
      exact ⟨a, v2, d2, ds, rfl, rfl, r1.dp h.2.1, r2.dp h.1.1, h.2.2, h.1.2, q _ H (New.refl H) (.int _)⟩
    · cases e
  · cases e
def gCntL : D → D → Option D
  | .list ds, d => if (shp d && shp (.list ds)) = true then some (.int (cntD ds d : Nat)) else none
  | _, _ => none
theorem rm_cntL {K : PySem.W.Frag} : RMD (rCntL K) gCntL := by
  intro Z H hz v1 v2 d1 d2 d r1 r2 e Q q
  unfold gCntL at e
  split at e
  · rename_i ds
    split at e
    · rename_i h
      cases e
      simp only [shp, Bool.and_eq_true] at h
      have r1' := r1
      obtain ⟨a, us, rfl, ha, ra⟩ := r1'
      exact ⟨a, v2, d2, ds, rfl, rfl, r1.dp h.2.1, r2.dp h.1.1, h.2.2, h.1.2, q _ H (New.refl H) (.int _)⟩
    · cases e
  · cases e
section
variable {X : Cx} {o e : Expr} {to te : TE} {apos cpos : Pos}
def tSeqM (K : PySem.W.Frag) (rt rl : V → List V → Hp → VK → Prop) (to te : TE) : TE := fun σ H Q => tBMF K "tuple" rt to (tCons te tNil) σ H Q ∨ tBMF K "list" rl to (tCons te tNil) σ H Q
def mSeqM (gt gl : D → D → Option D) (a b : EM) : EM := fun s => match mBM okTup gt a b s with
  | some x => some x
  | none => mBM okLst gl a b s
theorem sn_seqM {K : PySem.W.Frag} {rt rl : V → List V → Hp → VK → Prop} {gt gl : D → D → Option D} {ta tb : TE} {a b : EM} (ht : RMD rt gt) (hl : RMD rl gl) (ha : Sn ta a) (hb : Sn tb b) : Sn (tSeqM K rt rl ta tb) (mSeqM gt gl a b) := by
  intro Z M s σ H h w o' e Q q
  unfold mSeqM at e
  split at e
  · rename_i x hx
    cases e
    exact .inl (sn_bm ty_tup ht ha hb Z M s σ H h _ _ hx Q q)
  · exact .inr (sn_bm ty_lst hl ha hb Z M s σ H h _ _ e Q q)
theorem pe_count (hu : X.A.units + 65 < cLine) (ho : PE X o to) (he : PE X e te)
    (hbase : attributeBase o "count" X.env (eval o X.env) = eval o X.env := by rfl)
    (hfew : ((backTo cpos (starEach [e] X.env)).all (fun x => !x.1) && (backToKw cpos (keywordEach [] X.env)).all (fun x => x.1.isSome)
      && decide ([e].length + ([] : List Keyword).length + (if ([] : List Keyword).isEmpty then 0 else 1) < 30)) = true := by rfl)
    (hline : (apos.endLine == cpos.line) = true := by rfl) (hs : starEach [e] X.env = (false, eval e X.env) :: starEach [] X.env := by rfl) (hplain : (backTo cpos (starEach [] X.env)).any (·.1) = false := by rfl) :
    PE X (.Call (.Attribute o "count" apos) [e] [] cpos) (tSeqM X.K (rCntT X.K) (rCntL X.K) to te) :=
  PE.or2 (pe_bmF F.plainAttrs_tuple F.slot_tuple_count F.type_tuple_count (mt_cntT hu) ho (pa_cons he pa_nil hs) hbase hfew hline hs hplain) (pe_bmF F.plainAttrs_list F.slot_list_count F.type_list_count (mt_cntL hu) ho (pa_cons he pa_nil hs) hbase hfew hline hs hplain)
end
def rLstW (K : PySem.W.Frag) : List V → Hp → VK → Prop := fun xs H Q => rLstA K xs H Q ∨ ∃ z : Str, xs = [.str z] ∧ z.cps.size ≤ 1000 ∧ ∀ l, H l = none → Q (.ref l) (upd H l (.lst (z.cps.toList.map fun c => V.str ⟨#[c]⟩)))
theorem vals_signs : ∀ (cs : List Nat) (us : List Value), us.length = cs.length → (∀ (j : Nat) (v : Value), us[j]? = some v → ∃ (c : Nat) (u : Tok), cs[j]? = some c ∧ v = Value.str ⟨#[c]⟩ u) → Vals (cs.map fun c => V.str ⟨#[c]⟩) us
  | [], [], _, _ => .nil
  | [], _ :: _, h, _ => by simp at h
  | _ :: _, [], h, _ => by simp at h
  | c :: cs, u :: us, h, k => by
    refine .cons ?_ (vals_signs cs us (by simpa using h) fun j v e => ?_)
    · obtain ⟨c', t, e1, e2⟩ := k 0 u rfl
      simp at e1
      subst e1
      exact ⟨t, e2⟩
    · obtain ⟨c', t, e1, e2⟩ := k (j + 1) v (by simpa using e)
      exact ⟨c', t, by simpa using e1, e2⟩
theorem call_listT {X : Cx} (hc : X.calm = true) : CallR X (.type "list") (fun xs H Q => ∃ z : Str, xs = [.str z] ∧ z.cps.size ≤ 1000 ∧ ∀ l, H l = none → Q (.ref l) (upd H l (.lst (z.cps.toList.map fun c => V.str ⟨#[c]⟩)))) := by
  intro pins s σ H xs us Q I r h
  obtain ⟨z, rfl, hz, q⟩ := h
  obtain ⟨u, rfl, t, rfl⟩ := vals1 r
  refine call_list_str (I.ok.hd hc) z t (fun h' tk acc' c' hk e hit => ?_) (by rw [sizeLine_eq]; omega)
  have rv : Vals (z.cps.toList.map fun c => V.str ⟨#[c]⟩) acc'.toList := by
    refine vals_signs _ _ (by rw [Array.length_toList, hit.1, Array.length_toList]) fun j v ej => ?_
    obtain ⟨c, u, h1, h2⟩ := hit.2 j v (by simpa using ej)
    exact ⟨c, u, by simpa using h1, h2⟩
  exact ⟨.ref s.heap.objs.size, _, I.laid (t' := tk) hk (Nat.le_refl _) (show ObjOk X.prog X.w _ h' _ (.lst (z.cps.toList.map fun c => V.str ⟨#[c]⟩)) from ⟨by rw [List.length_map, Array.length_toList, sizeLine_eq]; omega, acc'.toList, c', rv, by simpa using e⟩), rfl, q _ (I.hok.fresh (Nat.le_refl _))⟩
theorem call_listU {X : Cx} (hc : X.calm = true) : CallR X (.type "list") (rLstW X.K) := call_list_of.or (call_listT hc)
def gListW : List D → Option D
  | [.str z] => if z.cps.size ≤ 1000 then some (.list (z.cps.toList.map fun c => PyData.str ⟨#[c]⟩)) else none
  | xs => gList xs
theorem rpA_signs {Z : Zs} {H : Hp} : ∀ cs : List Nat, RpA Z H (cs.map fun c => V.str ⟨#[c]⟩) (cs.map fun c => PyData.str ⟨#[c]⟩)
  | [] => .nil
  | c :: cs => .cons (.str _) (rpA_signs cs)
theorem rc_listW {K : PySem.W.Frag} : RCD (rLstW K) gListW := by
  intro Z H hz vs ds d r e Q q
  unfold gListW at e
  split at e
  · rename_i z
    split at e
    · rename_i hl
      cases e
      cases r with
      | cons h t =>
        cases t
        cases h
        exact .inr ⟨z, rfl, hl, fun p hp => q _ _ (New.upd hp) (.lst (fresh_nz hz hp) upd_same (rpA_signs _))⟩
    · cases e
  · exact .inl (rc_list Z H hz vs _ d r e Q q)
end
end AP

namespace AP
noncomputable section
open PySem PySem.Spec PyProof.Rows L2 RZ
variable [Tbls] [Gd]
end
end AP

namespace AP
noncomputable section
open PySem PySem.Spec PyProof.Rows L2 RZ
variable [Tbls] [Gd]
def isN : D → Bool
  | .none => true
  | _ => false
def sumI : List Int → Int
  | [] => 0
  | x :: r => x + sumI r
theorem sumI_eq : ∀ ns : List Int, sumI ns = ns.sum
  | [] => rfl
  | x :: r => by rw [List.sum_cons, ← sumI_eq r]; rfl
def gSum : List D → Option D
  | [.list ds] => (match intsOf ds with
    | some ns => some (.int (sumI ns))
    | none => none)
  | _ => none
theorem rc_sum {K : PySem.W.Frag} : RCD (rSum K) gSum := by
  intro Z H hz vs ds d r e Q q
  unfold gSum at e
  split at e
  · split at e
    · rename_i ns hb
      cases e
      cases r with
      | cons h t =>
        cases t
        obtain ⟨a, us, rfl, ha, ra⟩ := h
        obtain ⟨e1, _⟩ := intsOf_ok ra hb
        exact ⟨a, ns, rfl, SqL.of (by rw [← e1]; exact ha), by rw [← sumI_eq]; exact q _ H (New.refl H) (.int _)⟩
    · cases e
  · cases e
theorem RpA.set {Z : Zs} {H : Hp} {v : V} {d : D} (hv : Rp Z H v d) : ∀ {us : List V} {xs : List D} (j : Nat), RpA Z H us xs → RpA Z H (us.set j v) (xs.set j d)
  | _, _, _, .nil => .nil
  | _, _, 0, .cons _ r => .cons hv r
  | _, _, j + 1, .cons h r => .cons h (RpA.set hv j r)
def mPutL (v a b : EM) : SM := fun s => match v s with
  | some (.d d, o1) => (match a (s.on o1) with
    | some (.m k, o2) => (match b (s.on o2) with
      | some (.d (.int i), o3) => (match o3[k]? with
        | some (.l ds) => (match ixN ds.length i with
          | some j => some (.nx (s.on (o3.set k (.l (ds.set j d)))))
          | none => none)
        | _ => none)
      | _ => none)
    | _ => none)
  | _ => none
theorem ss_putL {td ty tv : TE} {v a b : EM} (hv : Sn tv v) (ha : Sn td a) (hb : Sn ty b) : SnS (tAsg tv (L2.gSub td ty rSetL)) (mPutL v a b) := by
  intro Z M s σ H h out e E f
  unfold mPutL at e
  split at e
  · rename_i d o1 ev
    refine hv Z M s σ H h _ _ ev _ fun M1 v1 H1 ⟨e1, _⟩ h1 r1 => ?_
    split at e
    · rename_i k o2 ea
      refine ha Z M1 (s.on o1) σ H1 h1 _ _ ea _ fun M2 v2 H2 ⟨e2, _⟩ h2 r2 => ?_
      obtain ⟨p, hp, rfl⟩ := r2
      split at e
      · rename_i i o3 eb
        refine hb Z M2 (s.on o2) σ H2 h2 _ _ eb _ fun M3 v3 H3 ⟨e3, _⟩ h3 r3 => ?_
        split at e
        · rename_i ds hk
          split at e
          · rename_i j hj
            cases e
            have hp3 := e3.at hp
            obtain ⟨xs, hx, rx⟩ := h3.r.ob k p _ hp3 hk
            have r3' : Rp (zz Z M3) H3 v3 (.int i) := r3
            cases r3'
            obtain ⟨g1, g2⟩ := own_mut (ob := .lst (xs.set j v1)) (r := .l (ds.set j d)) h3 hp3 ⟨_, rfl, RpA.set ((e2.trans e3).mono_d r1) j rx⟩
            exact ⟨p, xs, i, j, rfl, rfl, hx, by rw [rx.length]; exact hj, f M3 σ _ (((e1.trans e2).trans e3).trans g2) g1⟩
          · cases e
        · cases e
      · cases e
    · cases e
  · cases e
end
end AP

namespace AP
noncomputable section
open PySem PySem.Spec PyProof.Rows L2 RZ
variable [Tbls] [Gd]
def rCmpD (K : PySem.W.Frag) (f : D → D → Bool) : R2 := fun x y H Q => ∃ d e, Dp K H x d ∧ Dp K H y e ∧ PySem.W.alike d e = true ∧ d ≠ .none ∧ min d.depth e.depth ≤ 60 ∧ Q (.bl (f d e)) H
section
variable {X : Cx}
theorem op_ltD (hu : X.A.units + 64 < cLine) : OpR X (compareOp .Lt) (rCmpD X.K fun d e => PySem.W.dataLt d e) := by
  intro pins s σ H x y v u Q I rx ry h
  obtain ⟨d, e, hd, he, al, dn, dp, q⟩ := h
  obtain ⟨as, r1⟩ := Dp.reads I d x v hd rx
  obtain ⟨bs, r2⟩ := Dp.reads I e y u he ry
  exact PySem.W.lt_data r1 r2 al dn (by omega) ⟨.bl _, H, I, rfl, q⟩
theorem op_leD (hu : X.A.units + 64 < cLine) : OpR X (compareOp .LtE) (rCmpD X.K fun d e => !PySem.W.dataLt e d) := by
  intro pins s σ H x y v u Q I rx ry h
  obtain ⟨d, e, hd, he, al, dn, dp, q⟩ := h
  obtain ⟨as, r1⟩ := Dp.reads I d x v hd rx
  obtain ⟨bs, r2⟩ := Dp.reads I e y u he ry
  exact PySem.W.le_data r1 r2 al dn (by omega) ⟨.bl _, H, I, rfl, q⟩
end
def gCmpD (f : D → D → Bool) (a b : D) : Option D := if (noD a && (noD b && (PySem.W.alike a b && (!isN a && decide (min a.depth b.depth ≤ 60))))) = true then some (.bool (f a b)) else none
theorem isN_false {d : D} (h : isN d = false) : d ≠ .none := fun e => by subst e; cases h
theorem r2_cmpD {K : PySem.W.Frag} {f : D → D → Bool} : R2D (rCmpD K f) (gCmpD f) := by
  intro Z H hz v1 v2 d1 d2 d r1 r2 e Q q
  unfold gCmpD at e
  split at e
  · rename_i h
    cases e
    simp only [Bool.and_eq_true, Bool.not_eq_true', decide_eq_true_eq] at h
    exact ⟨d1, d2, r1.dp h.1, r2.dp h.2.1, h.2.2.1, isN_false h.2.2.2.1, h.2.2.2.2, q _ H (New.refl H) (.bl _)⟩
  · cases e
abbrev fLt : D → D → Bool := fun d e => PySem.W.dataLt d e
abbrev fLe : D → D → Bool := fun d e => !PySem.W.dataLt e d
def rLtW (K : PySem.W.Frag) : R2 := fun x y H Q => rLtU x y H Q ∨ rCmpD K fLt x y H Q
def rLeW (K : PySem.W.Frag) : R2 := fun x y H Q => rLeU x y H Q ∨ rCmpD K fLe x y H Q
def gLtW (a b : D) : Option D := oel (gLtU a b) (gCmpD fLt a b)
def gLeW (a b : D) : Option D := oel (gLeU a b) (gCmpD fLe a b)
theorem op_ltW {X : Cx} (hu : X.A.units + 64 < cLine) : OpR X (compareOp .Lt) (rLtW X.K) := op_ltU.or (op_ltD hu)
theorem op_leW {X : Cx} (hu : X.A.units + 64 < cLine) : OpR X (compareOp .LtE) (rLeW X.K) := op_leU.or (op_leD hu)
theorem r2_ltW {K : PySem.W.Frag} : R2D (rLtW K) gLtW := r2_ltU.or r2_cmpD
theorem r2_leW {K : PySem.W.Frag} : R2D (rLeW K) gLeW := r2_leU.or r2_cmpD
theorem RnK.length {M : List Addr} : ∀ {kvs : List (Key × V)} {ps : List (Key × Nat)}, RnK M kvs ps → kvs.length = ps.length
  | _, _, .nil => rfl
  | _, _, .cons _ t => by simp [RnK.length t]
end
end AP

namespace AP
noncomputable section
open PySem PySem.Spec PyProof.Rows L2 RZ
variable [Tbls] [Gd]
inductive AO where
  | ok (vs : List SV) (o : List MO) | er (c : Str) (fs : List (Str × D)) (s : S)
inductive BO where
  | ok (b : Bool) (o : List MO) | er (c : Str) (fs : List (Str × D)) (s : S)
section
variable {prog : Program} {w : World} {A : Around} {E : Value → Shared → Prop} {s : Shared}
end
section
variable {X : Cx}
end
theorem RvA.ev {Z : Zs} {M M' : List Addr} {H H' : Hp} (e : Ex2 M H M' H') {vs : List V} {xs : List SV} (h : RvA Z M H vs xs) : RvA Z M' H' vs xs := RvA.ext e.toExt h
end
end AP

namespace AP
noncomputable section
open PySem PySem.Spec PyProof.Rows L2 RZ
variable [Tbls] [Gd]
abbrev TC := Addr → Value → Option Addr → TS
abbrev Clause := Str → List (Str × D) → Option D
structure ClauseOk (K : PySem.W.Frag) (n : Nat) (th : TC) (he : Clause) : Prop where
  exm : ∀ c fs r, he c fs = some r → PySem.W.exmOne K (.ref (He.ga K c)) (.ref (He.ga K "PieceError")) = some true
  run : ∀ {Z : Zs} {H : Hp} {cls : Value} {d : Option Addr} {a : Addr} {c : Str} {fs : List (Str × D)} {r : D} {σ : L2.St} {E : Ends}, RX K Z H cls d c fs → (∀ a, Z a → Has H a) → σ.length = n → σ[1]? = some (some (.ref a)) → he c fs = some r →
    (∀ v H', New H H' → Rp Z H' v r → E.rt v H') → th a cls d E σ H
def tT3 (K : PySem.W.Frag) (a : Addr) (cls : Value) (d : Option Addr) (sg C : Str) : TE :=
  tTupF (tCons (tC (.str sg)) (tCons (tXf a cls d (He.ga K C) "word" (tVar 1)) (tCons (tXf a cls d (He.ga K C) "at" (tVar 1)) tNil)))
def tO3 : TE := tTupF (tCons (tC (.str (Str.ofString "odd"))) tNil)
def tHeard3 (K : PySem.W.Frag) : TC := fun a cls d =>
  tSeq (tAsg (tLst (tCons (tIsE K cls d a (cV K "InvalidPaper")) (tCons (tIsE K cls d a (cV K "NotUsable")) tNil))) (gName 2))
  (tSeq (tAsg (tLst (tCons (tIsE K cls d a (cV K "PaperError")) (tCons (tIsE K cls d a (cV K "NetError")) (tCons (tIsE K cls d a (cV K "SpreadError")) tNil)))) (gName 3))
  (tSeq (tDrop (tBM K "list" rAppend (tVar 3) (tCons (tIsE K cls d a (cV K "TextError")) tNil)))
  (tSeq (tIfS (tOr (tNot (tTr K (tIsE K cls d a (.ty "ValueError")))) (tOr (tTest (tOp (rNeU K) (tBM K "list" (rCntB K) (tVar 2) (tCons (tC (.bl true)) tNil)) (tC (.int 1)))) (tTest (tOp (rNeU K) (tBM K "list" (rCntB K) (tVar 3) (tCons (tC (.bl true)) tNil)) (tC (.int 1))))))
    (tRet tO3) tNext)
  (tSeq (tIfS (tTr K (tOp (rIxA K) (tVar 2) (tC (.int 0))))
    (tRet (tIf (tTr K (tOp (rIxA K) (tVar 3) (tC (.int 0)))) (tT3 K a cls d (Str.ofString "paper") "InvalidPaper") tO3)) tNext)
  (tRet (tIf (tTr K (tOp (rIxA K) (tVar 3) (tC (.int 1)))) (tT3 K a cls d (Str.ofString "use") "NotUsable") tO3))))))
structure Kits3 (K : PySem.W.Frag) (c : Str) (b : Bool) : Prop where
  ex : ExI K (He.ga K c)
  k1 : PySem.W.kitOne K (.ref (He.ga K c)) (.ref (He.ga K "InvalidPaper")) = some b
  k2 : PySem.W.kitOne K (.ref (He.ga K c)) (.ref (He.ga K "NotUsable")) = some (!b)
  s1 : PySem.W.kitOne K (.ref (He.ga K c)) (.ref (He.ga K "PaperError")) = some b
  s2 : PySem.W.kitOne K (.ref (He.ga K c)) (.ref (He.ga K "NetError")) = some (!b)
  s3 : PySem.W.kitOne K (.ref (He.ga K c)) (.ref (He.ga K "SpreadError")) = some false
  s4 : PySem.W.kitOne K (.ref (He.ga K c)) (.ref (He.ga K "TextError")) = some false
  ve : PySem.W.kitOne K (.ref (He.ga K c)) (.type "ValueError") = some true
  exm : PySem.W.exmOne K (.ref (He.ga K c)) (.ref (He.ga K "PieceError")) = some true
def he3 : Clause := fun c fs => if c = Str.ofString "InvalidPaper" then (match fs.lookup (Str.ofString "word"), fs.lookup (Str.ofString "at") with
    | some x, some y => some (.tuple [.str (Str.ofString "paper"), x, y])
    | _, _ => none)
  else if c = Str.ofString "NotUsable" then (match fs.lookup (Str.ofString "word"), fs.lookup (Str.ofString "at") with
    | some x, some y => some (.tuple [.str (Str.ofString "use"), x, y])
    | _, _ => none)
  else none
theorem heard3 {K : PySem.W.Frag} {Z : Zs} {H : Hp} {cls : Value} {d : Option Addr} {a : Addr} {c : Str} {fs : List (Str × D)} {b : Bool} {x1 x2 : D} {σ : L2.St} {E : Ends} (x : RX K Z H cls d c fs) (hz : ∀ a, Z a → Has H a) (kt : Kits3 K c b)
    (own : c = cond b "InvalidPaper" "NotUsable") (hl : σ.length = 4) (hs : σ[1]? = some (some (.ref a))) (l1 : fs.lookup (Str.ofString "word") = some x1) (l2 : fs.lookup (Str.ofString "at") = some x2)
    (q : ∀ v H', New H H' → Rp Z H' v (.tuple [.str (cond b (Str.ofString "paper") (Str.ofString "use")), x1, x2]) → E.rt v H') : tHeard3 K a cls d E σ H := by
  unfold tHeard3
  show tIsE K cls d a (cV K "InvalidPaper") σ H _
  refine isE_run x kt.ex hs cV_rel kt.k1 ?_
  show tIsE K cls d a (cV K "NotUsable") σ H _
  refine isE_run x kt.ex hs cV_rel kt.k2 ?_
  refine ⟨small_line (by show 2 ≤ 100000; decide), fun p1 hp1 => ?_⟩
  have n1 : New H (upd H p1 (.lst [V.bl b, V.bl (!b)])) := New.upd hp1
  have z1 : ¬ Z p1 := fun z => (hz p1 z).ne hp1
  have x1' := x.new n1
  have hs1 : (σ.set 2 (some (V.ref p1)))[1]? = some (some (.ref a)) := by rw [List.getElem?_set_ne (by decide)]; exact hs
  have h21 : (σ.set 2 (some (V.ref p1)))[2]? = some (some (.ref p1)) := List.getElem?_set_self (by omega)
  have at1 : (upd H p1 (.lst [V.bl b, V.bl (!b)])) p1 = some (.lst [V.bl b, V.bl (!b)]) := upd_same
  have hl1 : (σ.set 2 (some (V.ref p1))).length = 4 := by rw [List.length_set]; exact hl
  show tSeq (tAsg (tLst (tCons (tIsE K cls d a (cV K "PaperError")) (tCons (tIsE K cls d a (cV K "NetError")) (tCons (tIsE K cls d a (cV K "SpreadError")) tNil)))) (gName 3)) _ E (σ.set 2 (some (V.ref p1))) (upd H p1 (.lst [V.bl b, V.bl (!b)]))
  generalize (σ.set 2 (some (V.ref p1))) = τ at hs1 h21 hl1
  generalize hH1 : (upd H p1 (.lst [V.bl b, V.bl (!b)])) = H1 at n1 x1' at1
  show tIsE K cls d a (cV K "PaperError") τ H1 _
  refine isE_run x1' kt.ex hs1 cV_rel kt.s1 ?_
  show tIsE K cls d a (cV K "NetError") τ H1 _
  refine isE_run x1' kt.ex hs1 cV_rel kt.s2 ?_
  show tIsE K cls d a (cV K "SpreadError") τ H1 _
  refine isE_run x1' kt.ex hs1 cV_rel kt.s3 ?_
  refine ⟨small_line (by show 3 ≤ 100000; decide), fun p2 hp2 => ?_⟩
  have n2 : New H1 (upd H1 p2 (.lst [V.bl b, V.bl (!b), V.bl false])) := New.upd hp2
  have ne : p1 ≠ p2 := fun e => by subst e; rw [at1] at hp2; cases hp2
  have z2 : ¬ Z p2 := fun z => (n1.dom p2 (hz p2 z)).ne hp2
  have hs2 : (τ.set 3 (some (V.ref p2)))[1]? = some (some (.ref a)) := by rw [List.getElem?_set_ne (by decide)]; exact hs1
  have h22 : (τ.set 3 (some (V.ref p2)))[2]? = some (some (.ref p1)) := by rw [List.getElem?_set_ne (by decide)]; exact h21
  have h32 : (τ.set 3 (some (V.ref p2)))[3]? = some (some (.ref p2)) := List.getElem?_set_self (by omega)
  have x2' := x1'.new n2
  -- the append
  show tSeq (tDrop (tBM K "list" rAppend (tVar 3) (tCons (tIsE K cls d a (cV K "TextError")) tNil))) _ E (τ.set 3 (some (V.ref p2))) (upd H1 p2 (.lst [V.bl b, V.bl (!b), V.bl false]))
  generalize (τ.set 3 (some (V.ref p2))) = υ at hs2 h22 h32
  refine ⟨.ref p2, h32, .inl ⟨rfl, _, SqL.of upd_same⟩, ?_⟩
  refine isE_run x2' kt.ex hs2 cV_rel kt.s4 ?_
  refine ⟨p2, [V.bl b, V.bl (!b), V.bl false], V.bl false, rfl, rfl, upd_same, Nat.lt_of_lt_of_le (by show 3 < 100000; decide) (small_line (Nat.le_refl _)), ?_⟩
  have n23 : New H1 (upd (upd H1 p2 (.lst [V.bl b, V.bl (!b), V.bl false])) p2 (.lst ([V.bl b, V.bl (!b), V.bl false] ++ [V.bl false]))) := by
    have e : upd (upd H1 p2 (.lst [V.bl b, V.bl (!b), V.bl false])) p2 (.lst ([V.bl b, V.bl (!b), V.bl false] ++ [V.bl false])) = upd H1 p2 (.lst ([V.bl b, V.bl (!b), V.bl false] ++ [V.bl false])) := by
      funext y
      by_cases hy : y = p2
      · subst hy; rw [upd_same, upd_same]
      · rw [upd_ne hy, upd_ne hy, upd_ne hy]
    rw [e]
    exact New.upd hp2
  have at2 : (upd (upd H1 p2 (.lst [V.bl b, V.bl (!b), V.bl false])) p2 (.lst ([V.bl b, V.bl (!b), V.bl false] ++ [V.bl false]))) p2 = some (.lst [V.bl b, V.bl (!b), V.bl false, V.bl false]) := upd_same
  show tSeq _ _ E υ (upd (upd H1 p2 (.lst [V.bl b, V.bl (!b), V.bl false])) p2 (.lst ([V.bl b, V.bl (!b), V.bl false] ++ [V.bl false])))
  generalize (upd (upd H1 p2 (.lst [V.bl b, V.bl (!b), V.bl false])) p2 (.lst ([V.bl b, V.bl (!b), V.bl false] ++ [V.bl false]))) = H2 at n23 at2
  have x3 := x1'.new n23
  have at1' : H2 p1 = some (.lst [V.bl b, V.bl (!b)]) := n23.at_ _ _ at1 nt_lst
  have n12 := n1.trans n23
  have hz2 : ∀ a, Z a → H2 a ≠ none := fun a z => (n12.dom a (hz a z)).ne
  show tIsE K cls d a (.ty "ValueError") υ H2 _
  refine isE_run x3 kt.ex hs2 ty_rel kt.ve ⟨true, rfl, ?_⟩
  have one1 : ([b, !b].count true : Nat) = 1 := by cases b <;> rfl
  have one2 : ([b, !b, false, false].count true : Nat) = 1 := by cases b <;> rfl
  refine ⟨.ref p1, h22, .inl ⟨rfl, _, SqL.of at1'⟩, p1, [b, !b], true, rfl, rfl, SqL.of at1', ?_⟩
  rw [one1]
  refine r2_neU Z H2 hz2 (.int ((1 : Nat) : Int)) (.int 1) (.int ((1 : Nat) : Int)) (.int 1) (.bool false) (Rp.rt (.int _)) (Rp.rt (.int _)) rfl _ fun v H3 n3 r3 => ?_
  cases r3
  refine ⟨false, rfl, ?_⟩
  have at2' : H3 p2 = some (.lst [V.bl b, V.bl (!b), V.bl false, V.bl false]) := n3.at_ _ _ at2 nt_lst
  refine ⟨.ref p2, h32, .inl ⟨rfl, _, SqL.of at2'⟩, p2, [b, !b, false, false], true, rfl, rfl, SqL.of at2', ?_⟩
  rw [one2]
  refine r2_neU Z H3 (fun a z => ((n12.trans n3).dom a (hz a z)).ne) (.int ((1 : Nat) : Int)) (.int 1) (.int ((1 : Nat) : Int)) (.int 1) (.bool false) (Rp.rt (.int _)) (Rp.rt (.int _)) rfl _ fun v H4 n4 r4 => ?_
  cases r4
  refine ⟨false, rfl, ?_⟩
  have n14 : New H H4 := (n12.trans n3).trans n4
  have x5 := (x3.new n3).new n4
  have at1'' : H4 p1 = some (.lst [V.bl b, V.bl (!b)]) := n4.at_ _ _ (n3.at_ _ _ at1' nt_lst) nt_lst
  have at2'' : H4 p2 = some (.lst [V.bl b, V.bl (!b), V.bl false, V.bl false]) := n4.at_ _ _ at2' nt_lst
  have rl1 : RpA Z H4 [V.bl b, V.bl (!b)] [.bool b, .bool (!b)] := .cons (.bl b) (.cons (.bl _) .nil)
  have rl2 : RpA Z H4 [V.bl b, V.bl (!b), V.bl false, V.bl false] [.bool b, .bool (!b), .bool false, .bool false] := .cons (.bl b) (.cons (.bl _) (.cons (.bl _) (.cons (.bl _) .nil)))
  have ix : ∀ {H5 : Hp} {j : Nat} {p : Addr} {us : List V} {ds : List D} (k : Nat) (b' : Bool) {Q : VK}, New H4 H5 → υ[j]? = some (some (.ref p)) → H4 p = some (.lst us) → ¬ Z p → RpA Z H4 us ds → gIx (.list ds) (.int k) = some (.bool b') →
      (∀ H6, New H5 H6 → Q (.bl b') H6) → tOp (rIxA K) (tVar j) (tC (.int k)) υ H5 Q := by
    intro H5 j p us ds k b' Q n h2 h3 zp rr e q2
    refine ⟨.ref p, h2, ?_⟩
    refine r2_ix Z H5 (fun a z => ((n14.trans n).dom a (hz a z)).ne) (.ref p) (.int k) _ _ _ (Rp.rt (.lst zp (n.at_ _ _ h3 nt_lst) (rr.new n))) (Rp.rt (.int _)) e Q fun v H6 n6 rv => ?_
    cases rv
    exact q2 H6 n6
  have fin : ∀ (sg C : Str) (H5 : Hp), New H4 H5 → c = C → sg = cond b (Str.ofString "paper") (Str.ofString "use") → tT3 K a cls d sg C υ H5 E.rt := by
    intro sg C H5 n ec es
    subst ec
    have x' := x5.new n
    show tXf a cls d (He.ga K c) "word" (tVar 1) υ H5 (fun y1 H1 => tCons (tXf a cls d (He.ga K c) "at" (tVar 1)) tNil υ H1 fun ys H2 => (V.str sg :: y1 :: ys).length ≤ sizeLine ∧ nTup (V.str sg :: y1 :: ys) H2 E.rt)
    refine xf_run x' hs2 l1 fun v1 r1 => ?_
    show tXf a cls d (He.ga K c) "at" (tVar 1) υ H5 (fun y2 H2 => (V.str sg :: v1 :: [y2]).length ≤ sizeLine ∧ nTup (V.str sg :: v1 :: [y2]) H2 E.rt)
    refine xf_run x' hs2 l2 fun v2 r2 => ?_
    refine ⟨small_line (by show 3 ≤ 100000; decide), fun p ob hp ho => ?_⟩
    have n2 : New H5 (upd H5 p (.frz ob (.tup [.str sg, v1, v2]))) := New.upd hp
    refine q _ _ ((n14.trans n).trans n2) ?_
    rw [← es]
    exact .tup (fun z => ((n14.trans n).dom p (hz p z)).ne hp) (TupAt.new ho) (.cons (.str sg) (.cons (r1.new n2) (.cons (r2.new n2) .nil)))
  refine ix 0 b (New.refl _) h22 at1'' z1 rl1 (by cases b <;> rfl) fun H5 n5 => ⟨b, rfl, ?_⟩
  cases b with
  | true =>
    rw [if_pos rfl]
    refine ix 0 true n5 h32 at2'' z2 rl2 rfl fun H6 n6 => ⟨true, rfl, ?_⟩
    exact fin _ _ H6 (n5.trans n6) own rfl
  | false =>
    rw [if_neg (by decide)]
    refine ix 1 true n5 h32 at2'' z2 rl2 rfl fun H6 n6 => ⟨true, rfl, ?_⟩
    exact fin _ _ H6 (n5.trans n6) own rfl
theorem clause3 {K : PySem.W.Frag} (k1 : Kits3 K "InvalidPaper" true) (k2 : Kits3 K "NotUsable" false) : ClauseOk K 4 (tHeard3 K) he3 := by
  have both : ∀ c fs r, he3 c fs = some r → ∃ b x1 x2, Kits3 K c b ∧ c = cond b "InvalidPaper" "NotUsable" ∧ fs.lookup (Str.ofString "word") = some x1 ∧ fs.lookup (Str.ofString "at") = some x2 ∧ r = .tuple [.str (cond b (Str.ofString "paper") (Str.ofString "use")), x1, x2] := by
    intro c fs r e
    unfold he3 at e
    split at e
    · rename_i hc
      subst hc
      split at e
      · rename_i x y h1 h2
        cases e
        exact ⟨true, x, y, k1, rfl, h1, h2, rfl⟩
      · cases e
    · split at e
      · rename_i hc
        subst hc
        split at e
        · rename_i x y h1 h2
          cases e
          exact ⟨false, x, y, k2, rfl, h1, h2, rfl⟩
        · cases e
      · cases e
  refine ⟨fun c fs r e => ?_, fun {Z H cls d a c fs r σ E} x hz hl hs e q => ?_⟩
  · obtain ⟨b, _, _, kt, _⟩ := both c fs r e
    exact kt.exm
  · obtain ⟨b, x1, x2, kt, own, l1, l2, rfl⟩ := both c fs r e
    exact heard3 x hz kt own hl hs l1 l2 q
end
end AP

namespace AP
noncomputable section
open PySem PySem.Spec PyProof.Rows L2 RZ
variable [Tbls]
structure HeF3 (K : PySem.W.Frag) (mg : Str → Option Value) : Prop where
  isi : mg "isinstance" = none
  val : mg "ValueError" = none
  pie : mg "PieceError" = some (.ref (He.ga K "PieceError"))
  net : mg "NetError" = some (.ref (He.ga K "NetError"))
  pap : mg "PaperError" = some (.ref (He.ga K "PaperError"))
  txt : mg "TextError" = some (.ref (He.ga K "TextError"))
  spr : mg "SpreadError" = some (.ref (He.ga K "SpreadError"))
  use : mg "NotUsable" = some (.ref (He.ga K "NotUsable"))
  inp : mg "InvalidPaper" = some (.ref (He.ga K "InvalidPaper"))
  xuse : XfC K (He.ga K "NotUsable")
  xinp : XfC K (He.ga K "InvalidPaper")
  u1 : PySem.W.findIn K (.ref (He.ga K "NotUsable")) "word" = some none
  u2 : PySem.W.findIn K (.ref (He.ga K "NotUsable")) "at" = some none
  p1 : PySem.W.findIn K (.ref (He.ga K "InvalidPaper")) "word" = some none
  p2 : PySem.W.findIn K (.ref (He.ga K "InvalidPaper")) "at" = some none
  kp : Kits3 K "InvalidPaper" true
  ku : Kits3 K "NotUsable" false
theorem HeF3.cl [Gd] {K : PySem.W.Frag} {mg : Str → Option Value} (h : HeF3 K mg) : ClauseOk K 4 (tHeard3 K) he3 := clause3 h.kp h.ku
section
variable [Gd] {X : Cx}
end
end
end AP

namespace AP
noncomputable section
open PySem PySem.Spec PyProof.Rows L2 RZ
variable [Tbls] [Gd]
end
end AP

namespace AP
noncomputable section
open PySem PySem.Spec PyProof.Rows L2 RZ
section
variable [Tbls] [Gd]
end
end
end AP

namespace AP
noncomputable section
open PySem PySem.Spec PyProof.Rows L2 RZ
section
variable [Tbls] [Gd]
mutual
def noL : D → Bool
  | .list _ => false
  | .dict _ => false
  | .tuple ds => noLs ds
  | _ => true
def noLs : List D → Bool
  | [] => true
  | d :: ds => noL d && noLs ds
end
def zb (Z : Zs) (M : List Addr) (vs : List V) : Zs := fun a => zz Z M a ∧ ¬ (a ∈ M ∧ V.ref a ∈ vs)
theorem ob_lk {Z : Zs} {M : List Addr} {o : List MO} {H : Hp} (r : Rob Z M o H) {a : Addr} (h : a ∈ M) : (∃ xs, H a = some (.lst xs)) ∨ ∃ kvs, H a = some (.dK kvs) := by
  obtain ⟨k, hk, e⟩ := List.getElem_of_mem h
  have h1 : M[k]? = some a := by rw [List.getElem?_eq_getElem hk, e]
  have hl : k < o.length := by rw [r.len]; exact hk
  have q := r.ob k a _ h1 (List.getElem?_eq_getElem hl)
  cases e2 : o[k] with
  | l ds => rw [e2] at q; obtain ⟨xs, q, _⟩ := q; exact .inl ⟨_, q⟩
  | k ps => rw [e2] at q; obtain ⟨xs, q, _⟩ := q; exact .inr ⟨_, q⟩
  | r ks => rw [e2] at q; obtain ⟨xs, q, _⟩ := q; exact .inl ⟨_, q⟩
  | g ps => rw [e2] at q; obtain ⟨xs, q, _⟩ := q; exact .inr ⟨_, q⟩
theorem tup_notM {Z : Zs} {M : List Addr} {o : List MO} {H H' : Hp} (r : Rob Z M o H) (n : New H H') {a : Addr} {xs : List V} {w : Bool} (t : TupAt H' a xs w) : a ∉ M := by
  intro h
  rcases ob_lk r h with ⟨ys, e⟩ | ⟨kvs, e⟩
  · have e2 := n.at_ _ _ e nt_lst
    rcases t with ⟨ob, q, _⟩ | ⟨_, q⟩ <;> rw [e2] at q <;> cases q
  · have e2 := n.at_ _ _ e nt_dK
    rcases t with ⟨ob, q, _⟩ | ⟨_, q⟩ <;> rw [e2] at q <;> cases q
mutual
theorem Rp.noL {Z : Zs} {M : List Addr} {o : List MO} {vs : List V} {H H' : Hp} (r : Rob Z M o H) (n : New H H') : ∀ {v : V} {d : D}, Rp (zb Z M vs) H' v d → AP.noL d = true → Rp (zz Z M) H' v d
  | _, _, .non, _ => .non
  | _, _, .bl b, _ => .bl b
  | _, _, .int i, _ => .int i
  | _, _, .str x, _ => .str x
  | _, _, .lst _ _ _, e => by simp [AP.noL] at e
  | _, _, .dct _ _ _, e => by simp [AP.noL] at e
  | _, _, .tup z h q, e => .tup (fun y => z ⟨y, fun w => tup_notM r n h w.1⟩) h (RpA.noL r n q (by simpa [AP.noL] using e))
theorem RpA.noL {Z : Zs} {M : List Addr} {o : List MO} {vs : List V} {H H' : Hp} (r : Rob Z M o H) (n : New H H') : ∀ {us : List V} {ds : List D}, RpA (zb Z M vs) H' us ds → noLs ds = true → RpA (zz Z M) H' us ds
  | _, _, .nil, _ => .nil
  | _, _, .cons h t, e => by
    simp only [noLs, Bool.and_eq_true] at e
    exact .cons (Rp.noL r n h e.1) (RpA.noL r n t e.2)
end
theorem args_zb {Z : Zs} {M : List Addr} {o : List MO} {H : Hp} (r : Rob Z M o H) {ws : List V} : ∀ {vs : List V} {xs : List SV} {ds : List D}, (∀ v ∈ vs, v ∈ ws) → RvA Z M H vs xs → vws o xs = some ds → RpA (zb Z M ws) H vs ds
  | [], [], _, _, .nil, e => by simp only [vws] at e; cases e; exact .nil
  | v :: _, x :: xs, _, hw, .cons h t, e => by
    simp only [vws] at e
    have lo : ∀ {us : List V} {ds : List D}, RpA (zz Z M) H us ds → RpA (zb Z M ws) H us ds := fun r => r.mono fun a o z e _ => ⟨fun y => z y.1, e⟩
    have lk : ∀ {us : List (Key × V)} {ds : List (D × D)}, RpK (zz Z M) H us ds → RpK (zb Z M ws) H us ds := fun r => r.mono fun a o z e _ => ⟨fun y => z y.1, e⟩
    cases e1 : vw o x with
    | none => rw [e1] at e; cases e
    | some d =>
      cases e2 : vws o xs with
      | none => rw [e1, e2] at e; cases e
      | some ds =>
        rw [e1, e2] at e; cases e
        refine .cons ?_ (args_zb r (fun u hu => hw u (List.mem_cons_of_mem _ hu)) t e2)
        cases x with
        | d y => cases e1; exact Rp.mono (fun a o z e _ => ⟨fun y => z y.1, e⟩) h
        | w u => cases e1
        | q _ _ => cases e1
        | t _ => cases e1
        | m k =>
          have q := vw_ok r h e1
          obtain ⟨a, ha, rfl⟩ := h
          have hm : a ∈ M := List.mem_of_getElem? ha
          have nz : ¬ zb Z M ws a := fun y => y.2 ⟨hm, hw _ List.mem_cons_self⟩
          cases d with
          | none => cases q
          | bool b => cases q
          | int i => cases q
          | str x => cases q
          | list ds => obtain ⟨b, us, eb, q1, q2⟩ := q; cases eb; exact .lst nz q1 (lo q2)
          | tuple ds => obtain ⟨b, us, eb, q1, q2, q3⟩ := q; exact absurd (.inr (by cases eb; exact hm)) q3
          | dict ps => obtain ⟨b, us, eb, q1, q2⟩ := q; cases eb; exact .dct nz q1 (lk q2)
theorem zb_has {Z : Zs} {M : List Addr} {o : List MO} {H : Hp} (r : Rob Z M o H) {ws : List V} (a : Addr) (h : zb Z M ws a) : Has H a := h.1.elim (fun z => r.zs a z) fun z => (ob_lk r z).elim (fun ⟨_, e⟩ => ⟨_, e, nt_lst⟩) fun ⟨_, e⟩ => ⟨_, e, nt_dK⟩
def mCallU (n : Nat) (f : Fun1) (a : AM) : EM := fun s => match a s with
  | none => none
  | some (xs, o1) => match vws o1 xs with
    | none => none
    | some ds => if ds.length = n then (match f ds with
      | some d => if noL d = true then some (.d d, o1) else none
      | none => none) else none
theorem sn_callU {n : Nat} {f : Fun1} {E : XK} {ta : TA} {a : AM} (ha : SnA ta a) : Sn (tCall (spP n f) [] E ta) (mCallU n f a) := by
  intro Z M s σ H h w o' e Q q
  unfold mCallU at e
  split at e
  · cases e
  · rename_i xs o1 ea
    refine ha Z M s σ H h _ _ ea _ fun M1 vs H1 e1 h1 r1 => ?_
    split at e
    · cases e
    · rename_i ds hd
      split at e
      · rename_i hn
        split at e
        · rename_i d hf
          split at e
          · rename_i fl
            cases e
            show spP n f (vs ++ []) H1 Q E
            rw [List.append_nil]
            exact ⟨zb Z M1 vs, ds, d, ⟨zb_has h1.r, h1.r.tb⟩, args_zb h1.r (fun _ h => h) r1 hd, hn, hf, fun v H' nw r => q M1 v H' (e1.trans (Ex2.new nw)) (h1.new nw) (Rp.noL h1.r nw r fl)⟩
          · cases e
        · cases e
      · cases e
section
variable {P : Program} {w : World} {K : PySem.W.Frag} {mg : Str → Option Value} {base : Heap} {x qual : Str} {params : Arguments} {body : List Stmt} {scope : Scope} {dvs : List V} {kws : List (Str × V)} {f : Addr} {fd : FuncData}
end
end
end
end AP

namespace AP
noncomputable section
open PySem PySem.Spec PyProof.Rows L2 RZ
section
variable [Tbls] [Gd]
def Fz (H H' : Hp) (d : Addr) (kvs : List (Key × V)) : Prop := (∀ a, a ≠ d → H' a = H a) ∧ L2.Rd H d (.dK kvs) ∧ L2.Rd H' d (.dK kvs)
section
variable {Z : Zs} {H H' : Hp} {dd : Addr} {kv0 : List (Key × V)}
theorem Fz.tup (f : Fz H H' dd kv0) {a : Addr} {xs : List V} {w : Bool} (h : TupAt H a xs w) : TupAt H' a xs w := by
  have ne : a ≠ dd := fun e => by
    subst e
    rcases f.2.1 with q | ⟨ob, q⟩ <;> rcases h with ⟨o, e, _⟩ | ⟨_, e⟩ <;> rw [q] at e <;> cases e
  rcases h with ⟨o, e, d⟩ | ⟨q, e⟩
  · exact .inl ⟨o, by rw [f.1 a ne]; exact e, d⟩
  · exact .inr ⟨q, by rw [f.1 a ne]; exact e⟩
theorem Fz.lst (f : Fz H H' dd kv0) {a : Addr} {xs : List V} (h : H a = some (.lst xs)) : H' a = some (.lst xs) := by
  have ne : a ≠ dd := fun e => by
    subst e
    rcases f.2.1 with q | ⟨ob, q⟩ <;> rw [q] at h <;> cases h
  rw [f.1 a ne]; exact h
theorem Fz.dk (f : Fz H H' dd kv0) {a : Addr} {kvs : List (Key × V)} (h : L2.Rd H a (.dK kvs)) : L2.Rd H' a (.dK kvs) := by
  by_cases e : a = dd
  · subst e
    have ek : kvs = kv0 := by
      rcases f.2.1 with q | ⟨ob, q⟩ <;> rcases h with e | ⟨o2, e⟩ <;> rw [q] at e <;> cases e <;> rfl
    rw [ek]; exact f.2.2
  · unfold L2.Rd at *
    rw [f.1 a e]; exact h
mutual
theorem Rp.fz (f : Fz H H' dd kv0) : ∀ {v : V} {d : D}, Rp Z H v d → Rp Z H' v d
  | _, _, .non => .non
  | _, _, .bl b => .bl b
  | _, _, .int i => .int i
  | _, _, .str x => .str x
  | _, _, .lst z h r => .lst z (f.lst h) (RpA.fz f r)
  | _, _, .tup z h r => .tup z (f.tup h) (RpA.fz f r)
  | _, _, .dct z h r => .dct z (f.dk h) (RpK.fz f r)
theorem RpA.fz (f : Fz H H' dd kv0) : ∀ {vs : List V} {ds : List D}, RpA Z H vs ds → RpA Z H' vs ds
  | _, _, .nil => .nil
  | _, _, .cons h r => .cons (Rp.fz f h) (RpA.fz f r)
theorem RpK.fz (f : Fz H H' dd kv0) : ∀ {vs : List (Key × V)} {ds : List (D × D)}, RpK Z H vs ds → RpK Z H' vs ds
  | _, _, .nil => .nil
  | _, _, .cons h r => .cons (Rp.fz f h) (RpK.fz f r)
end
theorem Fz.rg (f : Fz H H' dd kv0) {a : Addr} {lo hi : Int} (h : H a = some (.rng lo hi)) : H' a = some (.rng lo hi) := by
  have ne : a ≠ dd := fun e => by
    subst e
    rcases f.2.1 with q | ⟨ob, q⟩ <;> rw [q] at h <;> cases h
  rw [f.1 a ne]; exact h
theorem RvB.fz {M : List Addr} (f : Fz H H' dd kv0) : ∀ {vs : List V} {xs : List (D ⊕ Nat)}, RvB Z M H vs xs → RvB Z M H' vs xs
  | _, _, .nil => .nil
  | _, _, .d h t => .d (Rp.fz f h) (t.fz f)
  | _, _, .m q t => .m q (t.fz f)
theorem Fz.has (f : Fz H H' dd kv0) {a : Addr} (h : Has H a) : Has H' a := by
  by_cases e : a = dd
  · subst e
    rcases f.2.2 with q | ⟨ob, q⟩
    · exact ⟨_, q, nt_dK⟩
    · exact ⟨_, q, nt_frz⟩
  · obtain ⟨o, e1, e2⟩ := h
    exact ⟨o, by rw [f.1 a e]; exact e1, e2⟩
theorem Fz.ro (f : Fz H H' dd kv0) {M : List Addr} (hd : dd ∉ M) {a : Addr} (ha : a ∈ M) {x : MO} (h : Ro Z M H a x) : Ro Z M H' a x := by
  have ne : a ≠ dd := fun e => hd (e ▸ ha)
  cases x with
  | l ds => obtain ⟨xs, q1, q⟩ := h; exact ⟨xs, by rw [f.1 a ne]; exact q1, q.fz f⟩
  | k ps => obtain ⟨xs, q1, q⟩ := h; exact ⟨xs, by rw [f.1 a ne]; exact q1, q.fz f⟩
  | r ks => obtain ⟨xs, q1, q⟩ := h; exact ⟨xs, by rw [f.1 a ne]; exact q1, q⟩
  | g ps => obtain ⟨xs, q1, q⟩ := h; exact ⟨xs, by rw [f.1 a ne]; exact q1, q⟩
end
theorem Fz.tabs {H : Hp} {d : Addr} {u u' : HO} (h : H d = some u) (n : nt u) (n2 : ∀ φ, u ≠ .ext φ) (t : LamX.Tabs Tbls.T H) : LamX.Tabs Tbls.T (upd H d u') := fun p hp => tab_upd h n n2 (t p hp)
theorem Rob.fz {Z : Zs} {M : List Addr} {o : List MO} {H H' : Hp} {d : Addr} {kvs : List (Key × V)} (f : Fz H H' d kvs) (tb : LamX.Tabs Tbls.T H') (hd : d ∉ M) (r : Rob Z M o H) : Rob Z M o H' :=
  ⟨r.nd, fun a ha => f.has (r.zs a ha), r.nz, r.len, fun k a x h1 h2 => f.ro hd (List.mem_of_getElem? h1) (r.ob k a x h1 h2), tb⟩
theorem Rel.fz {Z : Zs} {M : List Addr} {s : S} {σ : L2.St} {H H' : Hp} {d : Addr} {kvs : List (Key × V)} (f : Fz H H' d kvs) (tb : LamX.Tabs Tbls.T H') (hd : d ∉ M) (r : Rel Z M s σ H) : Rel Z M s σ H' :=
  ⟨r.r.fz f tb hd, fun i sv q => by
    obtain ⟨v, q1, q2⟩ := r.sl i sv q
    refine ⟨v, q1, ?_⟩
    cases sv with
    | d x => exact Rp.fz f q2
    | m k => exact q2
    | w u => exact q2
    | q lo hi =>
      obtain ⟨a, e1, z, g⟩ := q2
      exact ⟨a, e1, z, f.rg g⟩
    | t xs =>
      obtain ⟨a, vs, e1, z, g, rb⟩ := q2
      exact ⟨a, vs, e1, z, f.tup g, rb.fz f⟩, r.sn⟩
end
end
end AP

namespace AP
noncomputable section
open PySem PySem.Spec PyProof.Rows L2 RZ
section
variable [Tbls] [Gd]
end
end
end AP

namespace AP
noncomputable section
open PySem PySem.Spec PyProof.Rows L2 RZ
section
variable [Tbls] [Gd]
end
end
end AP

namespace AP
noncomputable section
open PySem PySem.Spec PyProof.Rows L2
section
variable {κ : Type} [DecidableEq κ] {P : Program} {w : World}
structure Mem (knd : HeapKind P w κ) : Prop where
  stays : knd.Stays
  room : ∀ {A : Around}, A.units < cLine → knd.room A
  cls : ∀ {A : Around} {E : Value → Shared → Prop} {s : Shared} {k : κ} {b : Addr} {Q : Bool → Shared → Prop}, knd.is s.heap k b → Q false s → wpAny (model P w) A (ofAClassStatement 8 (.ref b)) Q E s
  byv : ∀ {A : Around} {E : Value → Shared → Prop} {s : Shared} {k : κ} {b : Addr} {Q : Bool → Shared → Prop}, knd.is s.heap k b → (∀ r, Q r s) → wpAny (model P w) A (hashByValue 8 (.ref b)) Q E s
abbrev rowG (knd : HeapKind P w κ) (p : Addr × κ) : Int × Value := (knd.hash p.2, .ref p.1)
abbrev hashG (knd : HeapKind P w κ) (p : Addr × κ) : Int := knd.hash p.2
structure SetG (knd : HeapKind P w κ) (h : Heap) (a : Addr) (L : List (Addr × κ)) (es : Array (Int × Value)) (ep : Nat) (t : SetTable) : Prop where
  ob : ∃ o, h.get? a = some o ∧ o.ExactSet ∧ o.data = .set es ep t
  rows : es.toList = L.map (rowG knd)
  tab : TabOk t (L.map (hashG knd))
  nd : (L.map (·.2)).Nodup
  mem : ∀ p ∈ L, knd.is h p.2 p.1
  led : w.params.followText "set-order" = true ∨ t.led = true
  few : L.length ≤ 4
  msk : t.mask = 7
section
variable {knd : HeapKind P w κ} {A : Around} {E : Value → Shared → Prop} {s : Shared} {a : Addr} {L : List (Addr × κ)} {es : Array (Int × Value)} {ep : Nat} {t : SetTable}
theorem SetG.len (R : SetG knd s.heap a L es ep t) : es.size = L.length := by
  simpa using congrArg List.length R.rows
theorem SetG.places (R : SetG knd s.heap a L es ep t) : t.place.toList.length = L.length := by
  simpa using R.tab.sz
theorem SetG.fits (R : SetG knd s.heap a L es ep t) : t.fits es.size = true := by
  have h1 := R.places
  rw [Array.length_toList] at h1
  have h2 := R.len
  have h3 := R.few
  have h4 := R.msk
  simp only [SetTable.fits, SetTable.fill, R.tab.dm, Bool.and_eq_true, beq_iff_eq, decide_eq_true_eq]
  constructor
  · omega
  · show t.place.size + 0 ≤ t.mask
    omega
theorem SetG.row (R : SetG knd s.heap a L es ep t) {i : Nat} {p : Addr × κ} (h : L[i]? = some p) : es[i]? = some (rowG knd p) := by
  rw [← Array.getElem?_toList, R.rows, List.getElem?_map, h]
  rfl
theorem SetG.whole (R : SetG knd s.heap a L es ep t) : ¬ t.gaveWay = true := by
  simp [SetTable.gaveWay, R.msk]
theorem Mem.but (m : Mem knd) {h h' : Heap} {k : κ} {b : Addr} {o : Obj} (x : knd.is h k b) (ho : h.get? a = some o) (hd : o.data = .set es ep t) (sb : Heap.SameBut a h h') : knd.is h' k b :=
  m.stays.stays (fun c oc vs n e1 e2 => by
    have ne : c ≠ a := fun e => by
      rw [e, ho] at e1
      rw [← Option.some.inj e1, hd] at e2
      cases e2
    exact (sb.2 c ne).trans e1) x
theorem Mem.more (m : Mem knd) {h h' : Heap} {k : κ} {b : Addr} (x : knd.is h k b) (hk : ∀ c o, h.get? c = some o → h'.get? c = some o) : knd.is h' k b := m.stays.stays (fun c o _ _ e _ => hk c o e) x
theorem Mem.unseen (m : Mem knd) {k : κ} {b : Addr} {Q : Bool → Shared → Prop} (hk : knd.is s.heap k b) {ys : List Value} (hy : ∀ y ∈ ys, ∃ k' c, y = Value.ref c ∧ knd.is s.heap k' c) (h : Q false s) :
    wpAny (model P w) A (searchCouldBeSeen (.ref b) ys) Q E s := by
  unfold searchCouldBeSeen
  refine wpAny_bind (wpAny_forIn_list _ (fun rest r s' => r.1 = none ∧ s' = s ∧ ∀ y ∈ rest, ∃ k' c, y = Value.ref c ∧ knd.is s.heap k' c) _ ?_ ?_ _ _ ⟨rfl, rfl, hy⟩)
  · rintro v rest r s' ⟨hr, rfl, all⟩
    obtain ⟨k', c, rfl, hc⟩ := all v List.mem_cons_self
    have all' := fun u hu => all u (List.mem_cons_of_mem _ hu)
    dsimp only
    by_cases hv : (b == c || (carriedByValue (.ref b) && carriedByValue (.ref c))) = true
    · exact wp_if_pos hv (wpAny_pure ⟨rfl, rfl, all'⟩)
    · refine wp_if_neg hv (wpAny_bind (knd.quiet hk ?_))
      simp only [Bool.not_true, Bool.false_eq_true, if_false]
      refine wpAny_bind (knd.quiet hc ?_)
      simp only [Bool.not_true, Bool.false_eq_true, if_false]
      refine wpAny_bind (m.cls hk ?_)
      simp only [Bool.false_eq_true, if_false]
      refine wpAny_bind (m.cls hc ?_)
      simp only [Bool.false_eq_true, if_false]
      exact wpAny_pure ⟨rfl, rfl, all'⟩
  · rintro ⟨r1, r2⟩ s' ⟨hr, rfl, _⟩
    simp only at hr
    subst hr
    exact wpAny_pure h
theorem nth_quiet (m : Nat) : ∀ (n : Nat) (p : SetTable.Probe), p.dummy = none → (nth m p n).dummy = none
  | 0, _, h => h
  | n + 1, p, h => nth_quiet m n (adv m p) (by unfold adv; split <;> exact h)
theorem SetG.find (m : Mem knd) (R : SetG knd s.heap a L es ep t) {x : Addr} {k : κ} (hx : knd.is s.heap k x) (hu : A.units < cLine) {K : Nat} (hKf : K < 10 * SetTable.turns t.mask)
    (hK : way t.mask (knd.hash k) K ∉ t.place.toList) (hKb : ∀ c, c < K → way t.mask (knd.hash k) c ∈ t.place.toList) {Q : SetFound → Shared → Prop}
    (yes : k ∈ L.map (·.2) → Q (.there none) s) (no : k ∉ L.map (·.2) → Q (.free (way t.mask (knd.hash k) K) false) s) :
    ∀ (f c : Nat) (st : Option SetTable.Probe), st.getD (t.probeStart (knd.hash k)) = nth t.mask (t.probeStart (knd.hash k)) c → c ≤ K → K - c < f →
      (∀ (c' i : Nat) p, c' < c → L[i]? = some p → t.place.toList[i]? = some (way t.mask (knd.hash k) c') → p.2 ≠ k) → wpAny (model P w) A (setSearchFrom a (.ref x) (knd.hash k) true f st) Q E s
  | 0, c, st, _, _, hf, _ => absurd hf (Nat.not_lt_zero _)
  | f + 1, c, st, hst, hc, hf, past => by
    obtain ⟨o, ho, hex, hd⟩ := R.ob
    have hst : st.getD (t.probeStart (knd.hash k)) = nth t.mask (runAt t.mask (SetTable.bits (knd.hash k) % (t.mask + 1)) (SetTable.bits (knd.hash k))) c := hst
    have at_ : ∀ q, nth t.mask (nth t.mask (runAt t.mask (SetTable.bits (knd.hash k) % (t.mask + 1)) (SetTable.bits (knd.hash k))) c) q = nth t.mask (runAt t.mask (SetTable.bits (knd.hash k) % (t.mask + 1)) (SetTable.bits (knd.hash k))) (c + q) := fun q => (nth_add t.mask c _ q).symm
    have way_ : ∀ q, (nth t.mask (nth t.mask (runAt t.mask (SetTable.bits (knd.hash k) % (t.mask + 1)) (SetTable.bits (knd.hash k))) c) q).j = way t.mask (knd.hash k) (c + q) := fun q => congrArg SetTable.Probe.j (at_ q)
    have hashAt : ∀ (i : Nat) p, L[i]? = some p → (es[i]?.map (·.1)).getD 0 = knd.hash p.2 := fun i p hp => by rw [R.row hp]; rfl
    have spec := go_spec t R.tab.ris R.tab.dm (fun i => (es[i]?.map (·.1)).getD 0) (knd.hash k) (10 * SetTable.turns t.mask) (K - c) _ (nth_quiet _ c (runAt t.mask (SetTable.bits (knd.hash k) % (t.mask + 1)) (SetTable.bits (knd.hash k))) rfl) (by omega)
      (fun q hq => by rw [way_]; exact hKb _ (by omega)) (by rw [way_, show c + (K - c) = K by omega]; exact hK)
    rw [setSearchFrom_succ]
    refine wpAny_bind (wpAny_setState_of ho hd R.fits ?_)
    dsimp only
    refine wp_if_neg R.whole ?_
    try refine wpAny_bind (wpAny_pure ?_)
    rcases spec with ⟨q, i, hq, hi, hh, before, found⟩ | ⟨before, found⟩
    · rw [way_] at hi found
      rw [at_] at found
      rw [← hst] at found
      rw [show t.probe (fun i => (es[i]?.map (·.1)).getD 0) (knd.hash k) (st.getD (t.probeStart (knd.hash k))) = _ from found]
      dsimp only
      have hil : i < L.length := by
        rw [← R.places]
        exact (List.getElem?_eq_some_iff.mp hi).1
      obtain ⟨p, hp⟩ : ∃ p, L[i]? = some p := ⟨_, List.getElem?_eq_getElem hil⟩
      have pm : p ∈ L := List.mem_of_getElem? hp
      have go : wpAny (model P w) A (searchRest a (.ref x) (knd.hash k) true f es t (way t.mask (knd.hash k) (c + q)) i (nth t.mask (runAt t.mask (SetTable.bits (knd.hash k) % (t.mask + 1)) (SetTable.bits (knd.hash k))) (c + (q + 1)))) Q E s := by
        unfold searchRest
        rw [R.row hp]
        dsimp only
        refine wpAny_bind (wpAny_holding (knd.eqBool (m.room hu) (R.mem p pm) hx (wpAny_bind (wpAny_setState_of ho hd R.fits ?_))))
        dsimp only
        by_cases e : p.2 = k
        · exact wp_if_pos (by simp [e]) (wpAny_pure (yes (List.mem_map.mpr ⟨p, pm, e⟩)))
        · refine wp_if_neg (by simp [e]) ?_
          try refine wpAny_bind (wpAny_pure ?_)
          have live : t.slot (way t.mask (knd.hash k) (c + q)) = .live i := slot_live R.tab.ris hi
          rw [sameMem]
          dsimp only
          simp only [if_true, live, R.row hp]
          refine wpAny_bind (wpAny_isSame_ref_self (wpAny_bind (wpAny_pure ?_)))
          simp only [if_true]
          refine wp_if_neg (by simp [e]) (SetG.find m R hx hu hKf hK hKb yes no f (c + (q + 1)) _ rfl (by omega) (by omega) fun c' j p' hlt hj hpl ek => ?_)
          by_cases h1 : c' < c
          · exact past c' j p' h1 hj hpl ek
          · by_cases h2 : c' = c + q
            · subst h2
              have s0 := slot_live R.tab.ris hpl
              rw [live] at s0
              injection s0 with s0
              subst s0
              rw [hp] at hj
              exact e (by rw [Option.some.inj hj]; exact ek)
            · refine before (c' - c) j (by omega) (by rw [way_, show c + (c' - c) = c' by omega]; exact hpl) ?_
              rw [hashAt j p' hj, ek]
      by_cases hl : t.led = true
      · refine wp_if_neg (by simp [hl]) ?_
        try refine wpAny_bind (wpAny_pure ?_)
        exact go
      · refine wp_if_pos (by simp [hl]) (wpAny_bind (m.unseen hx (fun y hy => ?_) ?_))
        · obtain ⟨e, he, rfl⟩ := List.mem_map.mp hy
          have he2 : e ∈ es.toList := by
            have he1 : e ∈ es ∧ e.1 = knd.hash k := by simpa using he
            simpa using he1.1
          rw [R.rows] at he2
          obtain ⟨p2, hp2, rfl⟩ := List.mem_map.mp he2
          exact ⟨p2.2, p2.1, rfl, R.mem p2 hp2⟩
        · refine wp_if_neg (by decide) ?_
          try refine wpAny_bind (wpAny_pure ?_)
          exact go
    · rw [way_, show c + (K - c) = K by omega] at found
      rw [← hst] at found
      rw [show t.probe (fun i => (es[i]?.map (·.1)).getD 0) (knd.hash k) (st.getD (t.probeStart (knd.hash k))) = _ from found]
      dsimp only
      refine wpAny_pure (no fun hm => ?_)
      obtain ⟨p0, h0, ek⟩ := List.mem_map.mp hm
      obtain ⟨i0, hi0, e0⟩ := List.getElem_of_mem h0
      have hL : L[i0]? = some p0 := by rw [List.getElem?_eq_getElem hi0, e0]
      have hpl : i0 < t.place.toList.length := by rw [R.places]; exact hi0
      obtain ⟨c', hlt, hw⟩ := R.tab.before hK (h := knd.hash k) (i := i0) (by rw [List.getElem?_map, hL, ← ek]; rfl) (List.getElem?_eq_getElem hpl)
      have hj : t.place.toList[i0]? = some (way t.mask (knd.hash k) c') := by rw [List.getElem?_eq_getElem hpl, hw]
      by_cases h1 : c' < c
      · exact past c' i0 p0 h1 hL hj ek
      · refine before (c' - c) i0 (by omega) (by rw [way_, show c + (c' - c) = c' by omega]; exact hj) ?_
        rw [hashAt i0 p0 hL, ek]
theorem SetG.search (m : Mem knd) (R : SetG knd s.heap a L es ep t) {x : Addr} {k : κ} (hx : knd.is s.heap k x) (hu : A.units < cLine) {Q : SetFound → Shared → Prop} (yes : k ∈ L.map (·.2) → Q (.there none) s)
    (no : ∀ K, k ∉ L.map (·.2) → way t.mask (knd.hash k) K ∉ t.place.toList → (∀ c, c < K → way t.mask (knd.hash k) c ∈ t.place.toList) → Q (.free (way t.mask (knd.hash k) K) false) s) :
    wpAny (model P w) A (setSearch a (.ref x) (knd.hash k) true) Q E s := by
  obtain ⟨K, k1, k2, k3⟩ := R.tab.first (by have h1 := R.few; have h2 := R.msk; rw [List.length_map]; omega) (knd.hash k)
  have big : K < 100000 := by
    have : SetTable.turns t.mask ≤ 100 := by
      rw [R.msk]
      decide
    omega
  unfold setSearch
  exact SetG.find m R hx hu k1 k2 k3 yes (fun hn => no K hn k2 k3) 100000 0 none rfl (Nat.zero_le _) (by omega) fun _ _ _ h => absurd h (Nat.not_lt_zero _)
theorem tab_plain {t : SetTable} {hs : List Int} (T : TabOk t hs) (b : Bool) : TabOk { t with plain := b } hs := ⟨T.ris, T.dm, T.sz, T.mok, T.bd, T.reach⟩
theorem SetG.add (m : Mem knd) (R : SetG knd s.heap a L es ep t) {x : Addr} {k : κ} (hx : knd.is s.heap k x) (hu : A.units < cLine) (room : L.length < 4) {Q : Bool → Shared → Prop}
    (hQ : ∀ b h' L' es' ep' t', Heap.SameBut a s.heap h' → SetG knd h' a L' es' ep' t' → (k ∈ L.map (·.2) → L' = L) → (k ∉ L.map (·.2) → L'.Perm ((x, k) :: L)) → Q b { s with heap := h' }) :
    wpAny (model P w) A (setAddHashed a (.ref x) (knd.hash k)) Q E s := by
  obtain ⟨o, ho, hex, hd⟩ := R.ob
  unfold setAddHashed
  rw [show (100000 : Nat) = 99999 + 1 from rfl]
  refine wpAny_holding ?_
  rw [setAddHashedIn_succ]
  refine wpAny_bind (wpAny_setState_of ho hd R.fits ?_)
  dsimp only
  refine wp_if_neg (by simp [byScan, Value.scannable]) ?_
  try refine wpAny_bind (wpAny_pure ?_)
  refine wpAny_bind (R.search m hx hu (fun hm => ?_) fun K hm hK hb => ?_)
  · exact wpAny_pure (hQ false s.heap L es ep t (Heap.SameBut.refl a s.heap) R (fun _ => rfl) fun z => absurd hm z)
  · dsimp only
    refine wpAny_bind (wpAny_setState_of ho hd R.fits ?_)
    dsimp only
    obtain ⟨q1, q2, q3, q4, q5, _, _, _, q9⟩ := R.tab.put hK hb
    generalize t.put (way t.mask (knd.hash k) K) = pt at q1 q3 q4 q5 q9 ⊢
    obtain ⟨t1, p⟩ := pt
    dsimp only at q1 q3 q4 q5 q9 ⊢
    rw [← q1] at q2 q3
    have perm : (L.take p ++ (x, k) :: L.drop p).Perm ((x, k) :: L) := by
      have h := List.perm_middle (a := (x, k)) (l₁ := L.take p) (l₂ := L.drop p)
      rwa [List.take_append_drop] at h
    have fin : ∀ r : Bool, wpAny (model P w) A (do
        storeSet a (SetTable.insertAt es p (knd.hash k, Value.ref x)) (if r = true then t1 else { t1 with plain := false })
        if (!false && (if r = true then t1 else { t1 with plain := false }).tooFull) = true then setRelay a (SetTable.grown (es.size + 1))
        return true) Q E s := fun r => by
      obtain ⟨t2, e2⟩ : ∃ t2, t2 = if r = true then t1 else { t1 with plain := false } := ⟨_, rfl⟩
      have facts : TabOk t2 ((L.map (hashG knd)).take p ++ knd.hash k :: (L.map (hashG knd)).drop p) ∧ t2.mask = t.mask ∧ t2.led = t.led ∧ t2.fill = L.length + 1 := by
        rw [List.length_map] at q9
        cases r
        · rw [if_neg Bool.false_ne_true] at e2
          rw [e2]
          exact ⟨tab_plain q3 false, q4, q5, q9⟩
        · rw [if_pos rfl] at e2
          rw [e2]
          exact ⟨q3, q4, q5, q9⟩
      rw [← e2]
      obtain ⟨T2, em, el, ef⟩ := facts
      have rows : (SetTable.insertAt es p (knd.hash k, Value.ref x)).toList = (L.take p ++ (x, k) :: L.drop p).map (rowG knd) := by
        rw [SetTable.toList_insertAt, R.rows, List.map_append, List.map_cons, List.map_take, List.map_drop]
      have keys : (L.map (hashG knd)).take p ++ knd.hash k :: (L.map (hashG knd)).drop p = (L.take p ++ (x, k) :: L.drop p).map (hashG knd) := by
        rw [List.map_append, List.map_cons, List.map_take, List.map_drop]
      rw [keys] at T2
      have len : (L.take p ++ (x, k) :: L.drop p).length = L.length + 1 := perm.length_eq
      have size : (SetTable.insertAt es p (knd.hash k, Value.ref x)).size = L.length + 1 := by
        rw [← Array.length_toList, rows, List.length_map, len]
      have one : ((L.take p ++ (x, k) :: L.drop p).map (·.2)).Nodup := (perm.map (·.2)).nodup_iff.mpr (List.nodup_cons.mpr ⟨hm, R.nd⟩)
      generalize SetTable.insertAt es p (knd.hash k, Value.ref x) = es1 at rows size ⊢
      generalize L.take p ++ (x, k) :: L.drop p = L1 at perm len T2 one rows
      refine wpAny_bind (wpAny_storeSet_of ho hd ?_ (by rw [size, sizeLine_eq]; omega))
      have sb : Heap.SameBut a s.heap (s.heap.update a (Obj.putSet es1 t2)) := Heap.SameBut.update ..
      have ho1 := store_at (es' := es1) (t' := t2) ho hd
      have tf : t2.tooFull = false := by
        have h1 := R.msk
        simp only [SetTable.tooFull, ef, em, h1, decide_eq_false_iff_not]
        omega
      have R1 : SetG knd (s.heap.update a (Obj.putSet es1 t2)) a L1 es1 (ep + 1) t2 := ⟨⟨_, ho1, ⟨hex.1, hex.2.1, hex.2.2⟩, rfl⟩, rows, T2, one, fun q hq => by
        rcases List.mem_cons.mp (perm.mem_iff.mp hq) with e | hq
        · rw [e]; exact m.but hx ho hd sb
        · exact m.but (R.mem q hq) ho hd sb, by rw [el]; exact R.led, by rw [len]; omega, by rw [em]; exact R.msk⟩
      refine wp_if_neg (by simp [tf]) ?_
      try refine wpAny_bind (wpAny_pure ?_)
      exact wpAny_pure (hQ true _ L1 es1 (ep + 1) t2 sb R1 (fun z => absurd z hm) fun _ => perm)
    by_cases hp : t1.plain = true
    · first
        | exact wp_if_pos hp (wpAny_bind (m.byv hx fin))
        | exact wpAny_bind (wp_if_pos hp (m.byv hx fin))
    · first
        | exact wp_if_neg hp (fin true)
        | exact wpAny_bind (wp_if_neg hp (wpAny_pure (fin true)))
structure Brought (ks : List (Addr × κ)) (i : Nat) (L : List (Addr × κ)) : Prop where
  sub : ∀ p ∈ L, p ∈ ks
  all : ∀ j, j < i → ∀ p, ks[j]? = some p → p.2 ∈ L.map (·.2)
  len : L.length ≤ i
theorem Brought.next {ks L L' : List (Addr × κ)} {i : Nat} {p : Addr × κ} (g : Brought ks i L) (hp : ks[i]? = some p) (c1 : p.2 ∈ L.map (·.2) → L' = L) (c2 : p.2 ∉ L.map (·.2) → L'.Perm (p :: L)) : Brought ks (i + 1) L' := by
  by_cases c : p.2 ∈ L.map (·.2)
  · rw [c1 c]
    refine ⟨g.sub, fun j hj q hq => ?_, Nat.le_succ_of_le g.len⟩
    by_cases e : j = i
    · subst e
      rw [hp] at hq
      rw [← Option.some.inj hq]; exact c
    · exact g.all j (by omega) q hq
  · have pm := c2 c
    refine ⟨fun q hq => ?_, fun j hj q hq => ?_, by rw [pm.length_eq]; exact Nat.succ_le_succ g.len⟩
    · rcases List.mem_cons.mp (pm.mem_iff.mp hq) with e | h
      · rw [e]; exact List.mem_of_getElem? hp
      · exact g.sub q h
    · rw [(pm.map (·.2)).mem_iff, List.map_cons]
      by_cases e : j = i
      · subst e
        rw [hp] at hq
        rw [← Option.some.inj hq]; exact List.mem_cons_self
      · exact List.mem_cons_of_mem _ (g.all j (by omega) q hq)
theorem SetG.at (m : Mem knd) {h h' : Heap} (R : SetG knd h a L es ep t) (ha : ∀ o, h.get? a = some o → h'.get? a = some o) (hm : ∀ p ∈ L, knd.is h' p.2 p.1) : SetG knd h' a L es ep t := by
  obtain ⟨o, ho, r⟩ := R.ob
  exact ⟨⟨o, ha o ho, r⟩, R.rows, R.tab, R.nd, hm, R.led, R.few, R.msk⟩
theorem setG_new {h : Heap} (ho : h.get? a = some { cls := .type "set", dict := none, data := .set #[] 0 (.fresh 0 0 (!w.params.followText "set-order")) }) : SetG knd h a [] #[] 0 (.fresh 0 0 (!w.params.followText "set-order")) :=
  { ob := ⟨_, ho, ⟨rfl, rfl, rfl⟩, rfl⟩
    rows := rfl
    tab := { ris := List.Pairwise.nil, dm := rfl, sz := rfl, mok := Or.inl rfl, bd := fun _ h => absurd h (by simp [SetTable.fresh]), reach := fun i h j hi => by simp at hi }
    nd := List.nodup_nil
    mem := fun _ h => absurd h (by simp)
    led := by
      show _ ∨ (!w.params.followText "set-order") = true
      cases w.params.followText "set-order"
      · exact Or.inr rfl
      · exact Or.inl rfl
    few := Nat.zero_le _
    msk := rfl }
theorem brings (m : Mem knd) {I : Addr} {fp wr : List Addr} {G : Array GenState → Array GenState → Prop} {n : Nat} {Pv : Nat → Value → Prop} {St : Nat → Shared → Prop} {R : Result → Shared → Prop} (W : WalksS P w A.in1 I fp wr G n Pv St) {S : Addr} (hS : S ∉ fp)
    {ks : List (Addr × κ)} (hn : n = ks.length) (few : ks.length ≤ 4) (val : ∀ i v, Pv i v → ∃ p, ks[i]? = some p ∧ v = .ref p.1) {h0 : Heap} (mem0 : ∀ p ∈ ks, knd.is h0 p.2 p.1) (S0 : h0.get? S = none) (w0 : ∀ b ∈ wr, h0.get? b = none) (hu : A.in1.units < cLine)
    (fin : ∀ s' L es ep t, (∀ b o, h0.get? b = some o → s'.heap.get? b = some o) → SetG knd s'.heap S L es ep t → Brought ks n L → ∀ s0, Moved (S :: wr) G s0 s' → s0 = s → R (.ok (.ret .none)) s') :
    ∀ (k i : Nat) (s1 : Shared), n - i = k → i ≤ n → St i s1 → (∀ b o, h0.get? b = some o → s1.heap.get? b = some o) → (∃ L es ep t, SetG knd s1.heap S L es ep t ∧ Brought ks i L) → Moved (S :: wr) G s s1 →
      codeAny (model P w) A (.builtin "set.update.loop" ⟨[.ref S, .ref I], []⟩) R s1 := by
  have Sw : S ∉ wr := fun h => hS (W.sub _ h)
  have kept : ∀ {s1 s2 : Shared}, Moved wr G s1 s2 → (∀ b o, h0.get? b = some o → s1.heap.get? b = some o) → ∀ b o, h0.get? b = some o → s2.heap.get? b = some o := fun hm hk b o e => hm.heap b o (fun hb => by rw [w0 b hb] at e; cases e) (hk b o e)
  have wide : ∀ {s1 s2 : Shared}, Moved wr G s1 s2 → Moved (S :: wr) G s1 s2 := fun hm => hm.mono fun b hb => List.mem_cons_of_mem _ hb
  intro k
  induction k with
  | zero =>
    intro i s1 hk hi st h1 ⟨L, es, ep, t, R1, g⟩ mv
    obtain rfl : i = n := by omega
    refine codeAny_builtin F.entry_set_update_loop ?_
    rw [Around.under_plainId F.plain_set_update_loop _]
    refine wpAny_bind (m := pyNext (.ref I)) (W.done s1 _ _ st fun s2 hm => ?_)
    exact wpAny_pure (fin s2 L es ep t (kept hm h1) (R1.at m (fun o e => hm.heap S o Sw e) fun p hp => m.more (mem0 p (g.sub p hp)) (kept hm h1)) g _ (Moved.trans W.gtrans mv (wide hm)) rfl)
  | succ k ih =>
    intro i s1 hk hi st h1 ⟨L, es, ep, t, R1, g⟩ mv
    refine codeAny_builtin F.entry_set_update_loop ?_
    rw [Around.under_plainId F.plain_set_update_loop _]
    refine wpAny_bind (m := pyNext (.ref I)) (W.item i s1 _ _ (by omega) st fun v s2 hP st2 hm => ?_)
    obtain ⟨p, hp, rfl⟩ := val i v hP
    have h2 := kept hm h1
    have mem2 : ∀ q ∈ ks, knd.is s2.heap q.2 q.1 := fun q hq => m.more (mem0 q hq) h2
    refine wpAny_bind (m := holding [Value.ref p.1] (setAdd S (.ref p.1))) (wpAny_holding ?_)
    unfold setAdd
    refine wpAny_holding (wpAny_bind (knd.pyHash (m.room hu) (mem2 p (List.mem_of_getElem? hp)) ?_))
    refine SetG.add (s := { s2 with toks := s2.toks + knd.draws p.2 }) m (R1.at m (fun o e => hm.heap S o Sw e) fun q hq => mem2 q (g.sub q hq)) (mem2 p (List.mem_of_getElem? hp)) hu (by have := g.len; omega) fun b h3 L3 es3 ep3 t3 sb R3 c1 c2 => ?_
    have h3k : ∀ b o, h0.get? b = some o → h3.get? b = some o := fun b o e => (sb.2 b (fun z => by rw [z, S0] at e; cases e)).trans (h2 b o e)
    refine wpAny_pure ⟨plainId_quiet F.plain_set_update_loop _, ih (i + 1) _ (by omega) (by omega) (W.frame _ s2 _ _ st2 (Nat.le_add_right _ _) fun b hb o e => ?_) h3k ⟨L3, es3, ep3, t3, R3, g.next hp c1 c2⟩ ?_⟩
    · rw [sb.2 b (fun e => hS (e ▸ hb))]; exact e
    · refine Moved.trans W.gtrans mv ((wide hm).then_heap (Nat.le_add_right _ _) fun b o hb e => ?_)
      rw [sb.2 b (fun e => hb (by rw [e]; exact List.mem_cons_self))]; exact e
abbrev set0 (w : World) : Obj := { cls := .type "set", dict := none, data := .set #[] 0 (.fresh 0 0 (!w.params.followText "set-order")) }
abbrev itOf (l : Addr) : Obj := { cls := .type "list_iterator", data := .fields #[.ref l, .int 0 0] }
set_option maxHeartbeats 8000000 in
theorem call_set_by {l : Addr} {items : Array Value} {post : Heap → Nat → Prop} {Q : Value → Shared → Prop} (hl : s.heap.IsList l items)
    (turns : ∀ R : Result → Shared → Prop, (∀ h' tk, post h' tk → R (.ok (.ret .none)) { s with heap := h', toks := tk }) →
      codeAny (model P w) A.in1.in1 (.builtin "set.update.loop" ⟨[.ref s.heap.objs.size, .ref (s.heap.push (set0 w)).objs.size], []⟩) R { s with heap := (s.heap.push (set0 w)).push (itOf l) })
    (hQ : ∀ h' tk, post h' tk → Q (.ref s.heap.objs.size) { s with heap := h', toks := tk }) : wpAny (model P w) A (call (.type "set") [.ref l]) Q E s := by
  obtain ⟨c, tl, hmro⟩ := F.called_set.mro
  have made := F.called_set.made
  have sub := F.called_set.sub
  have nt := F.called_set.notType
  have cc := F.called_set.canCreate
  have tc := F.typeCall_set_1 (.ref l)
  have li := F.called_set.init.lookup
  have bi := F.called_set.init.bind (.ref s.heap.objs.size)
  refine wpAny_call (codeAny_of_tree ?_)
  show wpAny _ _ (callAny (.type "set") _) _ _ _
  refine wpAny_pure ⟨Code.quiet_builtin _ (by decide +kernel), codeAny_builtin F.entry_type_call ?_⟩
  rw [Around.under_plain (weight_type_call_type "set" [.ref l] []) rfl]
  repeat (any_goals (first | assumption | wp_step))
  refine codeAny_mono (code_set_led1 (.ref l) (E := E) (Q₁ := fun obj s₁ => obj = .ref s.heap.objs.size ∧ s₁ = { s with heap := s.heap.push (set0 w) }) ⟨rfl, rfl⟩) fun r s₁ hr => ?_
  rcases r with e | fl
  · exact hr
  cases fl with
  | ret obj =>
    obtain ⟨rfl, rfl⟩ := hr
    have atS : (s.heap.push (set0 w)).get? s.heap.objs.size = some (set0 w) := Heap.get?_push_size _ rfl
    have isS : Shared.TypeIs { s with heap := s.heap.push (set0 w) } (.ref s.heap.objs.size) "set" := ⟨_, atS, rfl⟩
    repeat (any_goals (first | assumption | wp_step))
    refine codeAny_mono (codeAny_call_builtin (R := wants (fun r s₂ => r = .none ∧ ∃ h' tk, s₂ = { s with heap := h', toks := tk } ∧ post h' tk) E) F.called_set.init.plain F.entry_set_init (check_set_init_1 isS ?_)) fun r₂ s₂ hr₂ => ?_
    · obtain ⟨⟨c0, d0, data0, sl0⟩, ho, hc, nl, hd⟩ := hl
      simp only at hc hd
      subst hc
      subst hd
      have isL : (s.heap.push (set0 w)).IsList l items := ⟨_, Heap.get?_push_of_some _ ho, rfl, nl, rfl⟩
      have atL := Heap.get?_push_of_some (set0 w) ho
      have s1 := F.sub_list_set
      have s2 := F.sub_list_frozenset
      have s3 : (Value.type "list" == Value.type "dict") = false := by decide
      unfold Builtin.«set.__init__» noKeywords Builtin.Frozenset.updateFrom
      generalize hPI : pyIter = PI
      wp_walk
      subst hPI
      refine wpAny_pyIter_list isL (wpAny_bind (wpAny_runValue (turns _ fun h' tk p => ?_)))
      show wpAny _ _ _ _ _ _
      refine wpAny_pure ?_
      show wpAny _ _ (ret Value.none) _ _ _
      exact wpAny_pure ⟨rfl, h', tk, rfl, p⟩
    · rcases r₂ with e | fl₂
      · exact hr₂
      cases fl₂ with
      | ret r =>
        obtain ⟨rfl, h', tk, rfl, p⟩ := hr₂
        repeat (any_goals (first | assumption | wp_step))
        exact hQ h' tk p
      | _ => exact hr₂.elim
  | _ => exact hr.elim
end
end
end
end AP

namespace AP
noncomputable section
open PySem PySem.Spec PyProof.Rows L2
open PySem.W (EachIs)
section
variable {κ : Type} [DecidableEq κ] {P : Program} {w : World} {knd : HeapKind P w κ} {A : Around} {E : Value → Shared → Prop} {s : Shared} {a : Addr} {L : List (Addr × κ)} {es : Array (Int × Value)} {ep : Nat} {t : SetTable}
theorem call_setG (m : Mem knd) {l : Addr} {items : Array Value} (ks : List (Addr × κ)) {Q : Value → Shared → Prop} (hh : A.handled = none) (hl : s.heap.IsList l items) (hit : items.toList = ks.map fun p => Value.ref p.1)
    (mem : ∀ p ∈ ks, knd.is s.heap p.2 p.1) (few : ks.length ≤ 4) (hu : A.units + 3 < cLine)
    (h : ∀ (h' : Heap) (tk : Nat) L es ep t, SetG knd h' s.heap.objs.size L es ep t → Brought ks ks.length L → (∀ b o, s.heap.get? b = some o → h'.get? b = some o) → Q (.ref s.heap.objs.size) { s with heap := h', toks := tk }) :
    wpAny (model P w) A (call (.type "set") [.ref l]) Q E s := by
  have size : items.size = ks.length := by simpa using congrArg List.length hit
  refine call_set_by hl (post := fun h' tk => ∃ L es ep t, SetG knd h' s.heap.objs.size L es ep t ∧ Brought ks ks.length L ∧ ∀ b o, s.heap.get? b = some o → h'.get? b = some o) (fun R hR => ?_) fun h' tk ⟨L, es, ep, t, R, g, k⟩ => h h' tk L es ep t R g k
  have low : l < s.heap.objs.size := by obtain ⟨_, q, _⟩ := hl; exact Heap.lt_size q
  have far : (s.heap.push (set0 w)).objs.size = s.heap.objs.size + 1 := Heap.size_push ..
  have free : ∀ b, s.heap.objs.size ≤ b → s.heap.get? b = none := fun b hb => by
    cases q : s.heap.get? b with
    | none => rfl
    | some o => exact absurd (Nat.lt_of_lt_of_le (Heap.lt_size q) hb) (Nat.lt_irrefl _)
  have hne : l ≠ (s.heap.push (set0 w)).objs.size := by rw [far]; exact Nat.ne_of_lt (Nat.lt_succ_of_lt low)
  have hh3 : A.in1.in1.in1.handled = none := by simp [hh]
  refine brings (A := A.in1.in1) m ((Walks.list hh3 _ l hne items).toS) (S := s.heap.objs.size) (by rw [far]; simp only [List.mem_cons, List.not_mem_nil, or_false, not_or]; exact ⟨Nat.ne_of_lt (Nat.lt_succ_self _), Nat.ne_of_gt low⟩) size few (fun i v hv => ?_) (h0 := s.heap) mem (free _ (Nat.le_refl _))
    (fun b hb => free b (by rw [List.mem_singleton.mp hb, far]; exact Nat.le_succ _)) (by show A.units + 1 + 1 + 1 < cLine; omega) ?_ (items.size - 0) 0 _ rfl (Nat.zero_le _) ⟨⟨_, Heap.get?_push_size _ rfl, rfl, rfl⟩, (hl.push _).push _⟩
    (fun b o e => Heap.get?_push_of_some _ (Heap.get?_push_of_some _ e)) ⟨[], #[], 0, _, setG_new (Heap.get?_push_of_some _ (Heap.get?_push_size _ rfl)), ⟨fun _ h => absurd h (by simp), fun j hj => absurd hj (Nat.not_lt_zero _), Nat.le_refl _⟩⟩ (Moved.refl fun _ => rfl)
  · have q : items.toList[i]? = some v := by rw [Array.getElem?_toList]; exact hv
    rw [hit, List.getElem?_map] at q
    obtain ⟨p, hp, e⟩ := Option.map_eq_some_iff.mp q
    exact ⟨p, hp, e.symm⟩
  · rintro ⟨h', g', d', tk', os'⟩ L es ep t keep R g s0 mv rfl
    have eg : g' = s.gens := mv.gens
    have ed : d' = s.drawn := mv.drawn
    have eo : os' = s.os := mv.os
    subst eg; subst ed; subst eo
    exact hR h' tk' ⟨L, es, ep, t, R, by rw [← size]; exact g, keep⟩
theorem perm_map_inv {α β : Type} {f : α → β} {vs us : List β} (h : vs.Perm us) : ∀ L : List α, us = L.map f → ∃ L1 : List α, L1.Perm L ∧ vs = L1.map f := by
  induction h with
  | nil => intro L e; cases L with
    | nil => exact ⟨[], .nil, rfl⟩
    | cons => cases e
  | cons x _ ih => intro L e; cases L with
    | nil => cases e
    | cons y L =>
      obtain ⟨L1, p, q⟩ := ih L (List.cons.inj e).2
      exact ⟨y :: L1, p.cons y, by rw [List.map_cons, ← q, (List.cons.inj e).1]⟩
  | swap x y l => intro L e; cases L with
    | nil => cases e
    | cons b L => cases L with
      | nil => cases e
      | cons c L =>
        obtain ⟨e1, e2⟩ := List.cons.inj e
        obtain ⟨e3, e4⟩ := List.cons.inj e2
        exact ⟨c :: b :: L, List.Perm.swap b c L, by rw [List.map_cons, List.map_cons, e1, e3, e4]⟩
  | trans _ _ ih1 ih2 =>
    intro L e
    obtain ⟨L2, p2, e2⟩ := ih2 L e
    obtain ⟨L1, p1, e1⟩ := ih1 L2 e2
    exact ⟨L1, p1.trans p2, e1⟩
theorem each_self {α : Type} (f : α → Value) : ∀ L : List α, EachIs (fun v q => v = f q) (L.map f) L
  | [] => .nil
  | _ :: L => .cons rfl (each_self f L)
theorem each_out {α : Type} {f : α → Value} : ∀ {vs : List Value} {L : List α}, EachIs (fun v q => v = f q) vs L → vs = L.map f
  | _, _, .nil => rfl
  | _, _, .cons h t => by rw [List.map_cons, ← each_out t, h]
theorem dataLe_pw {β : Type} (k : β → PyData) (l : List β) : (l.mergeSort (PySem.W.dataLe false k)).Pairwise fun a b => PySem.W.dataLt (k b) (k a) = false := by
  refine List.Pairwise.imp (fun {a b} h => ?_) (PySem.W.sort_pairwise (le := PySem.W.dataLe false k) (show PySem.W.TotalLe (PySem.W.dataLe false k) from PySem.W.sortLe_total (listOrd itemOrd) false fun b => PySem.W.keyToks (k b)) l)
  have e : (!PySem.W.dataLt (k b) (k a)) = true := h
  simpa using e
theorem sorted_setG (m : Mem knd) (R : SetG knd s.heap a L es ep t) (hh : A.handled = none) (enc : κ → PyData) (rd : ∀ h k b, knd.is h k b → Reads h (.ref b) (enc k) []) (hal : PySem.W.AllAlike (L.map fun p => enc p.2)) (hk : PySem.W.Sortable (L.map fun p => enc p.2))
    (hu : ∀ p ∈ L, A.units + 8 + (enc p.2).depth < cLine) {Q : Value → Shared → Prop}
    (hQ : ∀ s' p (c : Nat) (L' : List (Addr × κ)), (∀ b o, s.heap.get? b = some o → s'.heap.get? b = some o) → s'.gens = s.gens → s'.os = s.os → s.heap.objs.size ≤ p → s'.heap.get? p = some (seqObj "list" (L'.map fun q => Value.ref q.1).toArray c) →
      L'.Perm L → L'.Pairwise (fun q r => PySem.W.dataLt (enc r.2) (enc q.2) = false) → Q (.ref p) s') : wpAny (model P w) A (call (.builtin "sorted") [.ref a]) Q E s := by
  obtain ⟨o, ho, hex, hd⟩ := R.ob
  have small := R.few
  refine Calls.call_function_entry kind_sorted plain_sorted entry_sorted (args_sorted1 _) ?_
  unfold Builtin.«sorted»
  refine wpAny_bind (m := checkCount "sorted" 1 1 _) (wpAny_pure (wpAny_bind (collect_set (A := A.in1) hh ⟨o, ho, hex.1, hd⟩ R.fits (by rw [R.len]; unfold scanBound; omega) R.tab.ris R.led fun s1 vs k1 hz g1 o1 pm => ?_)))
  rw [R.rows, List.map_map] at pm
  obtain ⟨L1, p1, rfl⟩ := perm_map_inv pm L rfl
  have len1 : L1.length ≤ 4 := by rw [p1.length_eq]; exact small
  refine wpAny_bind (wpAny_newList ?_ (by rw [List.length_map, sizeLine_eq]; omega))
  have mem1 : ∀ q ∈ L1, q ∈ L := fun q hq => p1.mem_iff.mp hq
  have at_ : (s1.heap.push (seqObj "list" (L1.map fun q => Value.ref q.1).toArray 0)).get? s1.heap.objs.size = some (seqObj "list" (L1.map fun q => Value.ref q.1).toArray 0) := Heap.get?_push_size _ rfl
  have er : EachIs (fun v q => ∃ as, Reads (s1.heap.push (seqObj "list" (L1.map fun q => Value.ref q.1).toArray 0)) v (enc q.2) as ∧ s1.heap.objs.size ∉ as) (L1.map fun q => Value.ref q.1) L1 := by
    have go : ∀ L2 : List (Addr × κ), (∀ q ∈ L2, q ∈ L) → EachIs (fun v q => ∃ as, Reads (s1.heap.push (seqObj "list" (L1.map fun q => Value.ref q.1).toArray 0)) v (enc q.2) as ∧ s1.heap.objs.size ∉ as) (L2.map fun q => Value.ref q.1) L2 := by
      intro L2
      induction L2 with
      | nil => exact fun _ => .nil
      | cons q L2 ih => exact fun h => .cons ⟨[], rd _ _ _ (m.more (R.mem q (h q List.mem_cons_self)) fun b u e => Heap.get?_push_of_some _ (k1 b u e)), by simp⟩ (ih fun r hr => h r (List.mem_cons_of_mem _ hr))
    exact go L1 mem1
  have sub : ∀ d ∈ L1.map (fun p => enc p.2), d ∈ L.map fun p => enc p.2 := fun d hd => (p1.map _).mem_iff.mp hd
  refine wpAny_bind (wpAny_holding (PySem.W.list_sort_data (s := { s1 with heap := s1.heap.push (seqObj "list" (L1.map fun q => Value.ref q.1).toArray 0) }) (enc := fun q : Addr × κ => enc q.2) (bs := L1) at_ (each_self (fun q : Addr × κ => Value.ref q.1) L1) er (fun d hd e he => hal d (sub d hd) e (sub e he)) ?_ (by rw [sizeLine_eq]; omega) (fun q hq => ?_) fun out _ eo => ?_))
  · rcases hk with h | h
    · exact .inl fun d hd => h d (sub d hd)
    · exact .inr fun d hd => h d (sub d hd)
  · have := hu q (mem1 q hq)
    show A.units + 1 + 1 + _ < _
    omega
  · have e2 := each_out eo
    subst e2
    obtain ⟨c, hc⟩ := sortedHeap_at (vs := L1.map fun q => Value.ref q.1) (out := ((L1.mergeSort (PySem.W.dataLe false fun q : Addr × κ => enc q.2)).map fun q => Value.ref q.1).toArray) at_
    refine wpAny_pure ⟨_, rfl, hQ _ s1.heap.objs.size c _ (fun b u e => ?_) g1 o1 hz hc ((List.mergeSort_perm _ _).trans p1) (dataLe_pw (fun q : Addr × κ => enc q.2) L1)⟩
    have q := k1 b u e
    have lt := Heap.lt_size q
    show (sortedHeap _ _ _ _).get? b = some u
    rw [sortedHeap_old (Nat.ne_of_lt lt) (by rw [size_push']; exact Nat.lt_succ_of_lt lt)]
    exact Heap.get?_push_of_some _ q
end
end
end AP

namespace AP
noncomputable section
open PySem PySem.Spec PyProof.Rows L2
section
variable {P : Program} {w : World}
abbrev TxK (P : Program) (w : World) : HeapKind P w (List Str) := tupleKind (PySem.strKind P w)
theorem items_txt {k : List Str} {vs : List Value} (h : ItemsAre (PySem.strKind P w) k vs) : ∀ v ∈ vs, ∃ x t, v = Value.str x t := by
  induction h with
  | nil => exact fun v hv => absurd hv (by simp)
  | @cons k0 v' ks vs h1 _ ih =>
    intro v hv
    rcases List.mem_cons.mp hv with rfl | hv
    · obtain ⟨t, e⟩ := Value.isStrOf_shape h1
      exact ⟨_, t, e⟩
    · exact ih v hv
theorem txMem : Mem (TxK P w) where
  stays := tupleKind_stays
  room := fun h => h
  cls := by
    intro A E s k b Q hk h
    have hT := IsTupleKey.typeIs hk
    obtain ⟨o, items, n, ho, _, hd, hi⟩ := hk
    unfold ofAClassStatement
    refine wpAny_bind (wpAny_typeOf hT ?_)
    dsimp only
    simp only [show (("tuple" : String) == "tuple") = true by decide, if_true, Bool.not_true, Bool.false_eq_true, if_false]
    try refine wpAny_bind (wpAny_pure ?_)
    try simp only [Bool.not_true, Bool.false_eq_true, if_false]
    show wpAny _ _ (seqItems? (.ref b) >>= _) _ _ s
    refine wpAny_bind (wpAny_seqItems ho hd ?_)
    dsimp only
    refine wpAny_bind ?_
    show wpAny _ _ (forIn items _ _) _ _ s
    rw [← Array.forIn_toList]
    refine wpAny_forIn_list _ (fun rest r s' => r.1 = none ∧ s' = s ∧ ∀ v ∈ rest, ∃ x t, v = Value.str x t) _ ?_ ?_ _ _ ⟨rfl, rfl, items_txt hi⟩
    · rintro v rest r s' ⟨hr, rfl, all⟩
      obtain ⟨x, t, rfl⟩ := all v List.mem_cons_self
      rw [show ofAClassStatement 7 (.str x t) = pure false from rfl]
      refine wpAny_bind (wpAny_pure ?_)
      simp only [Bool.false_eq_true, if_false]
      exact wpAny_pure ⟨rfl, rfl, fun u hu' => all u (List.mem_cons_of_mem _ hu')⟩
    · rintro ⟨r1, r2⟩ s' ⟨hr, rfl, _⟩
      simp only at hr
      subst hr
      exact wpAny_pure h
  byv := by
    intro A E s k b Q hk h
    have hT := IsTupleKey.typeIs hk
    obtain ⟨o, items, n, ho, _, hd, hi⟩ := hk
    unfold hashByValue
    refine wpAny_bind (wpAny_specialOf hT F.slot_tuple_hash.lookup ?_)
    show wpAny _ _ (seqItems? (.ref b) >>= _) _ _ s
    refine wpAny_bind (wpAny_seqItems ho hd ?_)
    refine wpAny_bind ?_
    show wpAny _ _ (forIn items _ _) _ _ s
    rw [← Array.forIn_toList]
    have all := items_txt hi
    revert all
    cases items.toList with
    | nil =>
      intro _
      rw [List.forIn_nil]
      exact wpAny_pure (wpAny_pure (h true))
    | cons v rest =>
      intro all
      obtain ⟨x, t, rfl⟩ := all v List.mem_cons_self
      rw [List.forIn_cons, show hashByValue 7 (.str x t) = pure false from rfl]
      refine wpAny_bind (wpAny_bind (wpAny_pure ?_))
      simp only [Bool.not_false, if_true]
      exact wpAny_pure (wpAny_pure (wpAny_pure (h false)))
def Set0 (P : Program) (w : World) (h : Heap) (a : Addr) (L : List (Addr × List Str)) : Prop := ∃ (es : Array (Int × Value)) (ep : Nat) (t : SetTable), (∃ o, h.get? a = some o ∧ o.ExactSet ∧ o.data = .set es ep t) ∧ es.toList = L.map (rowG (TxK P w)) ∧ TabOk t (L.map (hashG (TxK P w))) ∧ (L.map (·.2)).Nodup ∧
  (w.params.followText "set-order" = true ∨ t.led = true) ∧ L.length ≤ 4 ∧ t.mask = 7
def SetGO (P : Program) (w : World) (a : Addr) (L : List (Addr × List Str)) : HO := .ext fun h => Set0 P w h a L
theorem setG_lies {H : Hp} {h : Heap} {a : Addr} {L : List (Addr × List Str)} (R : Set0 P w h a L) : ObjOk P w H h a (SetGO P w a L) := by
  obtain ⟨es, ep, t, ⟨o, ho, r⟩, q⟩ := id R
  refine ⟨R, ⟨o, ho⟩, fun h1 h2 x k => ?_⟩
  obtain ⟨es', ep', t', ⟨o', ho', r'⟩, q'⟩ := x
  exact ⟨es', ep', t', ⟨o', k o' ho', r'⟩, q'⟩
theorem items_of_txt : ∀ {k : List Str} {us : List Value}, Vals (k.map V.str) us → ItemsAre (PySem.strKind P w) k us
  | [], _, .nil => .nil
  | x :: k, _, .cons r t => by
    obtain ⟨u, rfl⟩ := r
    exact .cons (show Value.isStrOf x (.str x u) = true by simp [Value.isStrOf]) (items_of_txt t)
theorem reads_txt {h : Heap} : ∀ {k : List Str} {us : List Value}, ItemsAre (PySem.strKind P w) k us → ReadsAll h us (k.map .str) []
  | [], _, .nil => .nil
  | x :: k, _, .cons (v := v) r t => by
    obtain ⟨u, rfl⟩ := Value.isStrOf_shape r
    exact .cons (as := []) (bs := []) (.str x u) (reads_txt t)
theorem tx_reads (h : Heap) (k : List Str) (b : Addr) (x : (TxK P w).is h k b) : Reads h (.ref b) (.tuple (k.map .str)) [] := by
  obtain ⟨o, items, n, ho, hc, hd, hi⟩ := x
  exact .tuple ho hc hd (reads_txt hi)
section
variable {X : Cx}
theorem is_tx {pins : List (Addr × Obj)} {σ : L2.St} {H : Hp} {s : Shared} {b : Addr} {k : List Str} (I : Inv X pins σ H s) (h : SqT X.K H b (k.map V.str)) : (TxK X.prog X.w).is s.heap k b := by
  obtain ⟨its, r, ⟨o, ho, hc, n, hd⟩, _⟩ := I.tuple h
  exact ⟨o, its.toArray, n, ho, hc, hd, by simpa using items_of_txt r⟩
theorem refs_out : ∀ {ks : List (Addr × List Str)} {us : List Value}, Vals (ks.map fun p => V.ref p.1) us → us = ks.map fun p => Value.ref p.1
  | [], _, .nil => rfl
  | p :: ks, _, .cons r t => by
    cases r
    rw [refs_out t, List.map_cons]
theorem refs_in : ∀ ks : List (Addr × List Str), Vals (ks.map fun p => V.ref p.1) (ks.map fun p => Value.ref p.1)
  | [] => .nil
  | _ :: ks => .cons rfl (refs_in ks)
def rSetG (K : PySem.W.Frag) (P : Program) (w : World) : List V → Hp → VK → Prop := fun xs H Q => ∃ (l : Addr) (ks : List (Addr × List Str)), xs = [V.ref l] ∧ SqL K H l (ks.map fun p => V.ref p.1) ∧ (∀ p ∈ ks, SqT K H p.1 (p.2.map V.str)) ∧ ks.length ≤ 4 ∧
  ∀ a L, H a = none → (∀ p ∈ L, p ∈ ks) → (∀ p ∈ ks, p.2 ∈ L.map (·.2)) → (L.map (·.2)).Nodup → Q (.ref a) (upd H a (SetGO P w a L))
theorem cr_setG (hc : X.calm = true) (hu : X.A.units + 64 < cLine) : CallR X (.type "set") (rSetG X.K X.prog X.w) := by
  intro pins s σ H xs us Q I r h
  obtain ⟨l, ks, rfl, hl, hk, hf, q⟩ := h
  rw [Vals.ref1 r]
  obtain ⟨its, rv, pl, hz⟩ := I.list hl
  refine call_setG (knd := TxK X.prog X.w) txMem ks (I.ok.hd hc) pl.isList (by simpa using refs_out rv) (fun p hp => is_tx I (hk p hp)) hf (by omega) fun h' tk L es ep t R g k => ?_
  refine ⟨.ref s.heap.objs.size, upd H s.heap.objs.size (SetGO X.prog X.w s.heap.objs.size L), I.laid (t' := tk) k (Nat.le_refl _) (setG_lies ⟨es, ep, t, R.ob, R.rows, R.tab, R.nd, R.led, R.few, R.msk⟩), rfl, q _ L (I.hok.fresh (Nat.le_refl _)) g.sub (fun p hp => ?_) R.nd⟩
  obtain ⟨j, hj, e⟩ := List.getElem_of_mem hp
  exact g.all j hj p (by rw [List.getElem?_eq_getElem hj, e])
def rSortG (K : PySem.W.Frag) (P : Program) (w : World) : List V → Hp → VK → Prop := fun vs H Q => ∃ (a : Addr) (L : List (Addr × List Str)), vs = [V.ref a] ∧ H a = some (SetGO P w a L) ∧ (∀ p ∈ L, SqT K H p.1 (p.2.map V.str)) ∧ (∀ p ∈ L, p.2 ≠ []) ∧
  ∀ (L' : List (Addr × List Str)) (p : Addr), L'.Perm L → L'.Pairwise (fun q r => PySem.W.dataLt (.tuple (r.2.map .str)) (.tuple (q.2.map .str)) = false) → H p = none → Q (.ref p) (upd H p (.lst (L'.map fun q => V.ref q.1)))
theorem alike_txt : ∀ xs ys : List Str, PySem.W.alikeAll (xs.map .str) (ys.map .str) = true
  | [], _ => by simp [PySem.W.alikeAll]
  | _ :: _, [] => by simp [PySem.W.alikeAll]
  | x :: xs, y :: ys => by
    rw [List.map_cons, List.map_cons, PySem.W.alikeAll, alike_txt xs ys]
    simp [PySem.W.alike]
theorem depth_txt : ∀ xs : List Str, PyData.depthAll (xs.map .str) = 0
  | [] => by simp [PyData.depthAll]
  | x :: xs => by
    rw [List.map_cons, PyData.depthAll, depth_txt xs]
    simp [PyData.depth]
theorem cr_sortG (hc : X.calm = true) (hu : X.A.units + 64 < cLine) : CallR X (.builtin "sorted") (rSortG X.K X.prog X.w) := by
  intro pins s σ H vs us Q I r h
  obtain ⟨a, L, rfl, ha, hk, ne, q⟩ := h
  obtain ⟨es, ep, t, h1, h2, h3, h4, h5, h6, h7⟩ : Set0 X.prog X.w s.heap a L := (I.hok a _ ha).1
  have R : SetG (TxK X.prog X.w) s.heap a L es ep t := ⟨h1, h2, h3, h4, fun p hp => is_tx I (hk p hp), h5, h6, h7⟩
  rw [Vals.ref1 r]
  refine sorted_setG txMem R (I.ok.hd hc) (fun k => .tuple (k.map .str)) tx_reads (PySem.W.AllAlike.of (enc := fun p : Addr × List Str => .tuple (p.2.map .str)) fun b b' => by simp [PySem.W.alike, alike_txt]) (.inl fun d hd => ?_) (fun p _ => ?_) fun s' p c L' k g o hp hg pm pw => ?_
  · obtain ⟨b, hb, rfl⟩ := List.mem_map.mp hd
    cases e : b.2 with
    | nil => exact absurd e (ne b hb)
    | cons x r => exact ⟨.str x, r.map .str, by simp only [e, List.map_cons]⟩
  · have : (PyData.tuple (p.2.map .str)).depth ≤ 2 := by simp [PyData.depth, depth_txt]
    omega
  · have len : (L'.map fun q => V.ref q.1).length ≤ sizeLine := by
      have := R.few
      rw [List.length_map, pm.length_eq, sizeLine_eq]
      omega
    have J : Inv X pins σ (upd H p (.lst (L'.map fun q => V.ref q.1))) { s with heap := s'.heap, gens := s'.gens, drawn := s'.drawn, toks := s'.toks } :=
      I.call (ch := []) (Un.laid k hp (I.hok.fresh hp)) (I.hok.laid k hp ⟨len, _, c, refs_in L', hg⟩) (by rw [g]; exact I.bare) (fun _ z => nomatch z)
    have e : s' = { s with heap := s'.heap, gens := s'.gens, drawn := s'.drawn, toks := s'.toks } := by
      cases s'
      cases s
      cases o
      rfl
    rw [e]
    exact ⟨.ref p, _, J, rfl, q L' p pm pw (I.hok.fresh hp)⟩
end
end
end
end AP

namespace AP
noncomputable section
open PySem PySem.Spec PyProof.Rows L2 RZ
section
variable [Tbls] [Gd]
abbrev encT (k : List Str) : D := .tuple (k.map .str)
def eqN : List Nat → List Nat → Bool
  | [], [] => true
  | x :: xs, y :: ys => Nat.beq x y && eqN xs ys
  | _, _ => false
theorem eqN_ok : ∀ {xs ys : List Nat}, eqN xs ys = true → xs = ys
  | [], [], _ => rfl
  | x :: xs, y :: ys, h => by
    simp only [eqN, Bool.and_eq_true] at h
    rw [Nat.eq_of_beq_eq_true h.1, eqN_ok h.2]
  | [], _ :: _, h => by simp [eqN] at h
  | _ :: _, [], h => by simp [eqN] at h
def eqT : List Str → List Str → Bool
  | [], [] => true
  | x :: xs, y :: ys => eqN x.cps.toList y.cps.toList && eqT xs ys
  | _, _ => false
theorem eqT_ok : ∀ {xs ys : List Str}, eqT xs ys = true → xs = ys
  | [], [], _ => rfl
  | x :: xs, y :: ys, h => by
    simp only [eqT, Bool.and_eq_true] at h
    rw [PySem.W.str_of_cps (eqN_ok h.1), eqT_ok h.2]
  | [], _ :: _, h => by simp [eqT] at h
  | _ :: _, [], h => by simp [eqT] at h
def insT (k : List Str) : List (List Str) → List (List Str)
  | [] => [k]
  | y :: r => if PySem.W.dataLt (encT k) (encT y) = true then k :: y :: r else if PySem.W.dataLt (encT y) (encT k) = true then y :: insT k r else y :: r
theorem insT_sub {k x : List Str} : ∀ {l : List (List Str)}, x ∈ insT k l → x = k ∨ x ∈ l
  | [], h => .inl (by simpa [insT] using h)
  | y :: r, h => by
    unfold insT at h
    split at h
    · simpa using h
    · split at h
      · rcases List.mem_cons.mp h with e | h
        · exact .inr (by simp [e])
        · rcases insT_sub h with e | e
          · exact .inl e
          · exact .inr (List.mem_cons_of_mem _ e)
      · exact .inr h
def sortT : List (List Str) → List (List Str)
  | [] => []
  | k :: r => insT k (sortT r)
theorem sortT_sub {x : List Str} : ∀ {l : List (List Str)}, x ∈ sortT l → x ∈ l
  | [], h => by simp [sortT] at h
  | k :: r, h => by
    rcases insT_sub (show x ∈ insT k (sortT r) from h) with e | e
    · simp [e]
    · exact List.mem_cons_of_mem _ (sortT_sub e)
def pwT : List (List Str) → Bool
  | [] => true
  | k :: r => r.all (fun y => PySem.W.dataLt (encT k) (encT y) && !PySem.W.dataLt (encT y) (encT k)) && pwT r
theorem pwT_ok : ∀ {l : List (List Str)}, pwT l = true → l.Pairwise fun a b => PySem.W.dataLt (encT a) (encT b) = true ∧ PySem.W.dataLt (encT b) (encT a) = false
  | [], _ => .nil
  | k :: r, h => by
    simp only [pwT, Bool.and_eq_true, List.all_eq_true, Bool.not_eq_true'] at h
    exact .cons h.1 (pwT_ok h.2)
theorem pwT_two : ∀ {l : List (List Str)}, pwT l = true → ∀ a ∈ l, ∀ b ∈ l, PySem.W.dataLt (encT a) (encT b) = false → PySem.W.dataLt (encT b) (encT a) = false → a = b
  | [], _, a, ha, _, _, _, _ => absurd ha (by simp)
  | k :: r, h, a, ha, b, hb, h1, h2 => by
    have q := h
    simp only [pwT, Bool.and_eq_true, List.all_eq_true] at q
    rcases List.mem_cons.mp ha with e1 | e1 <;> rcases List.mem_cons.mp hb with e2 | e2
    · rw [e1, e2]
    · have z := (q.1 b e2).1
      rw [e1] at h1
      rw [h1] at z
      cases z
    · have z := (q.1 a e1).1
      rw [e2] at h2
      rw [h2] at z
      cases z
    · exact pwT_two q.2 a e1 b e2 h1 h2
theorem sortT_one {ys tk zs : List (List Str)} (h1 : pwT ys = true) (h2 : ∀ y ∈ ys, y ∈ tk) (h3 : ∀ k ∈ tk, k ∈ ys) (n : zs.Nodup) (m : ∀ z, z ∈ zs ↔ z ∈ tk) (pw : zs.Pairwise fun a b => PySem.W.dataLt (encT b) (encT a) = false) : zs = ys := by
  have ny : ys.Nodup := (pwT_ok h1).imp fun {a b} h e => by
    rw [e] at h
    rw [h.1] at h
    exact absurd h.2 (by simp)
  have pm : zs.Perm ys := (List.perm_ext_iff_of_nodup n ny).mpr fun z => ⟨fun h => h3 z ((m z).mp h), fun h => (m z).mpr (h2 z h)⟩
  exact List.Perm.eq_of_pairwise (fun a b ha hb r1 r2 => pwT_two h1 a (pm.mem_iff.mp ha) b hb r2 r1) pw ((pwT_ok h1).imp fun h => h.2) pm
def txsOf : List D → Option (List (List Str))
  | [] => some []
  | .tuple ds :: r => (match strsOf ds with
    | some k => (match txsOf r with
      | some l => some (k :: l)
      | none => none)
    | none => none)
  | _ :: _ => none
theorem txsOf_ok {Z : Zs} {H : Hp} : ∀ {xs : List V} {ds : List D} {tk : List (List Str)}, RpA Z H xs ds → txsOf ds = some tk → ∃ ks : List (Addr × List Str), xs = ks.map (fun p => V.ref p.1) ∧ ks.map (·.2) = tk ∧ ∀ p ∈ ks, Rp Z H (.ref p.1) (encT p.2)
  | _, _, _, .nil, e => by simp only [txsOf] at e; cases e; exact ⟨[], rfl, rfl, fun _ h => absurd h (by simp)⟩
  | _, _, _, .cons (d := d) (ds := ds) h r, e => by
    cases d with
    | tuple us =>
      simp only [txsOf] at e
      split at e
      · rename_i k hk
        split at e
        · rename_i l hl
          cases e
          obtain ⟨ks, rfl, e2, e3⟩ := txsOf_ok r hl
          cases h with
          | tup z ha ra =>
            rename_i a xs
            obtain ⟨rfl, rfl⟩ := strsOf_ok ra hk
            refine ⟨(a, k) :: ks, rfl, by rw [List.map_cons, e2], fun p hp => ?_⟩
            rcases List.mem_cons.mp hp with rfl | hp
            · exact .tup z ha ra
            · exact e3 p hp
        · cases e
      · cases e
    | _ => simp [txsOf] at e
def neT : List (List Str) → Bool
  | [] => true
  | [] :: _ => false
  | (_ :: _) :: r => neT r
theorem neT_ok : ∀ {l : List (List Str)}, neT l = true → ∀ k ∈ l, k ≠ []
  | [], _, k, h => absurd h (by simp)
  | [] :: _, e, _, _ => by simp [neT] at e
  | (x :: y) :: r, e, k, h => by
    rcases List.mem_cons.mp h with rfl | h
    · simp
    · exact neT_ok (show neT r = true from e) k h
def gSetT (tk : List (List Str)) : Option D :=
  if Nat.ble tk.length 4 && (neT tk && (pwT (sortT tk) && tk.all fun k => (sortT tk).any fun y => eqT k y)) then some (.list ((sortT tk).map encT)) else none
def gSS : List D → Option D
  | [.list ds] => (match txsOf ds with
    | some tk => gSetT tk
    | none => none)
  | _ => none
def rSS (K : PySem.W.Frag) (P : Program) (w : World) : List V → Hp → VK → Prop := fun xs H Q => rSetG K P w xs H fun v H1 => rSortG K P w [v] H1 Q
theorem rpA_refs {Z : Zs} {H : Hp} : ∀ {L : List (Addr × List Str)}, (∀ p ∈ L, Rp Z H (.ref p.1) (encT p.2)) → RpA Z H (L.map fun p => V.ref p.1) ((L.map (·.2)).map encT)
  | [], _ => .nil
  | _ :: _, h => .cons (h _ List.mem_cons_self) (rpA_refs fun p hp => h p (List.mem_cons_of_mem _ hp))
theorem sq_of {Z : Zs} {H : Hp} {K : PySem.W.Frag} {a : Addr} {k : List Str} (h : Rp Z H (.ref a) (encT k)) : SqT K H a (k.map V.str) := by
  cases h with
  | tup z ha ra =>
    have e : strsOf (k.map PyData.str) = some k := by
      clear ra ha
      induction k with
      | nil => rfl
      | cons x k ih => simp only [List.map_cons, strsOf, ih]
    obtain ⟨rfl, _⟩ := strsOf_ok ra e
    exact ha.sq
theorem rc_SS {K : PySem.W.Frag} {P : Program} {w : World} : RCD (rSS K P w) gSS := by
  intro Z H hz vs ds d r e Q q
  unfold gSS at e
  split at e
  · rename_i ds
    split at e
    · rename_i tk ht
      unfold gSetT at e
      split at e
      · rename_i hc
        cases e
        simp only [Bool.and_eq_true, List.all_eq_true, List.any_eq_true] at hc
        obtain ⟨c1, c2, c3, c4⟩ := hc
        cases r with
        | cons h t =>
          cases t
          obtain ⟨l, xs, rfl, hl, ra⟩ := h
          obtain ⟨ks, rfl, e2, e3⟩ := txsOf_ok ra ht
          refine ⟨l, ks, rfl, SqL.of hl, fun p hp => sq_of (e3 p hp), ?_, fun a L ha sub all nd => ?_⟩
          · have := Nat.le_of_ble_eq_true c1
            rw [← e2, List.length_map] at this
            exact this
          · have n1 : New H (upd H a (SetGO P w a L)) := New.upd ha
            have e4 : ∀ p ∈ L, Rp Z (upd H a (SetGO P w a L)) (.ref p.1) (encT p.2) := fun p hp => (e3 p (sub p hp)).new n1
            have key : ∀ p ∈ L, p.2 ∈ tk := fun p hp => by rw [← e2]; exact List.mem_map.mpr ⟨p, sub p hp, rfl⟩
            refine ⟨a, L, rfl, upd_same, fun p hp => sq_of (e4 p hp), fun p hp => neT_ok c2 p.2 (key p hp), fun L' p pm pw hp => ?_⟩
            have e5 : L'.map (·.2) = sortT tk := by
              refine sortT_one c3 (fun y hy => sortT_sub hy) (fun k hk => ?_) ((pm.map (·.2)).nodup_iff.mpr nd) (fun z => ⟨fun hz => ?_, fun hz => ?_⟩) (List.pairwise_map.mpr pw)
              · obtain ⟨y, hy, ey⟩ := c4 k hk
                rw [eqT_ok ey]; exact hy
              · obtain ⟨p, hp, rfl⟩ := List.mem_map.mp hz
                exact key p (pm.mem_iff.mp hp)
              · rw [← e2] at hz
                obtain ⟨p, hp, rfl⟩ := List.mem_map.mp hz
                exact (pm.map (·.2)).mem_iff.mpr (all p hp)
            have pa : p ≠ a := fun e => by rw [e, upd_same] at hp; cases hp
            have hp0 : H p = none := by rw [upd_ne pa] at hp; exact hp
            have n2 : New (upd H a (SetGO P w a L)) (upd (upd H a (SetGO P w a L)) p (.lst (L'.map fun q => V.ref q.1))) := New.upd hp
            refine q _ _ (n1.trans n2) (.lst (fresh_nz hz hp0) upd_same ?_)
            rw [← e5]
            exact rpA_refs fun r hr => (e4 r (pm.mem_iff.mp hr)).new n2
      · cases e
    · cases e
  · cases e
theorem sn_sortSet {K : PySem.W.Frag} {P : Program} {w : World} {ta : TA} {a : AM} (ha : SnA ta a) : Sn (tCB (rSortG K P w) (tCons (tCB (rSetG K P w) ta) tNil)) (mCB gSS a) := show Sn (tCB (rSS K P w) ta) (mCB gSS a) from sn_cb rc_SS ha
end
end
end AP

namespace AP
noncomputable section
open PySem PySem.Spec PyProof.Rows L2 RZ
section
variable [Tbls] [Gd]
def tSS (K : PySem.W.Frag) (ta : TA) : TE := fun σ H Q => ∀ (P : Program) (w : World), tCB (rSortG K P w) (tCons (tCB (rSetG K P w) ta) tNil) σ H Q
theorem pe_tSS {X : Cx} {e : Expr} {ta : TA} (h : PE X e (tCB (rSortG X.K X.prog X.w) (tCons (tCB (rSetG X.K X.prog X.w) ta) tNil))) : PE X e (tSS X.K ta) := ⟨fun pins s σ H Q I q => h.run pins s σ H Q I (q X.prog X.w)⟩
theorem sn_tSS {K : PySem.W.Frag} {ta : TA} {a : AM} (ha : SnA ta a) : Sn (tSS K ta) (mCB gSS a) := fun Z M s σ H h r o' e Q q P w => sn_sortSet ha Z M s σ H h r o' e Q q
end
end
end AP

namespace AP
noncomputable section
open PySem PySem.Spec PyProof.Rows L2 RZ
section
variable [Tbls] [Gd]
theorem RvB.length {Z : Zs} {M : List Addr} {H : Hp} : ∀ {vs : List V} {xs : List (D ⊕ Nat)}, RvB Z M H vs xs → vs.length = xs.length
  | _, _, .nil => rfl
  | _, _, .d _ t => by simp [RvB.length t]
  | _, _, .m _ t => by simp [RvB.length t]
end
end
end AP

namespace AP
noncomputable section
open PySem PySem.Spec PyProof.Rows L2
section
variable {P : Program} {w : World} {A : Around} {E : Value → Shared → Prop} {s : Shared}
theorem alive_any {a : Addr} {Q : Option Obj → Shared → Prop} (h : Q (s.heap.get? a) s) : wpAny (model P w) A (loadIfAlive a) Q E s := fun _ _ _ => h
abbrev ZipF (h : Heap) (z TI TO : Addr) (f0 : Value) (f : Bool) : Prop := h.get? z = some { cls := .type "zip", dict := none, data := .fields #[f0, .bool f, .bool false, .ref TI, .ref TO], slots := #[] }
def OutOk (f0 : Value) : Prop := f0 = .none ∨ ∃ T : Addr, f0 = rawInt T
theorem zip_asks {z TI TO : Addr} {f0 : Value} {f : Bool} {Q : Bool → Shared → Prop} (hz : ZipF s.heap z TI TO f0 f) (h0 : OutOk f0) (free : Q true s) (held : f0 ≠ .none → ∀ h', ZipF h' z TI TO f0 true → Heap.SameBut z s.heap h' → Q false { s with heap := h' }) :
    wpAny (model P w) A (Builtin.SmallTypes.ownedTupleIsFree (.ref z)) Q E s := by
  unfold Builtin.SmallTypes.ownedTupleIsFree
  rcases h0 with rfl | ⟨T, rfl⟩
  · exact wpAny_bind (wpAny_field hz rfl (x := .none) rfl (wpAny_pure free))
  · replace held := held (fun q => nomatch q)
    refine wpAny_bind (wpAny_field hz rfl (x := rawInt T) rfl ?_)
    show wpAny _ _ (loadIfAlive ((T : Int).toNat) >>= _) _ _ _
    refine wpAny_bind (alive_any ?_)
    cases s.heap.get? ((T : Int).toNat) with
    | none =>
      simp only [Option.isNone_none, if_true]
      exact wpAny_pure free
    | some o =>
      simp only [Option.isNone_some, Bool.false_eq_true, if_false]
      refine wpAny_bind (wpAny_field hz rfl (x := .bool f) rfl ?_)
      cases f with
      | true =>
        rw [if_neg (show ¬ ((Value.bool true != Value.bool true) = true) from Bool.false_ne_true)]
        exact wpAny_pure (held s.heap hz (Heap.SameBut.refl _ _))
      | false =>
        rw [if_pos (show (Value.bool false != Value.bool true) = true from rfl)]
        exact wpAny_bind (wpAny_setField_rec hz (by simp) fun h1 z1 s1 => wpAny_pure (held h1 z1 s1))
variable {z TI TO i1 i2 : Addr} {f0 : Value} {f : Bool} {a b : Value} {fp1 fp2 : List Addr} {n1 n2 i : Nat} {P1 P2 : Nat → Value → Prop} {S1 S2 : Nat → Heap → Prop}
structure ApartZ (z TI TO i1 i2 : Addr) (fp1 fp2 : List Addr) : Prop where
  TIz : TI ≠ z
  TOz : TO ≠ z
  TITO : TI ≠ TO
  z1 : z ∉ fp1
  z2 : z ∉ fp2
  TO1 : TO ∉ fp1
  TO2 : TO ∉ fp2
  TI1 : TI ≠ i1
  TI2 : TI ≠ i2
  i12 : i1 ∉ fp2
  i21 : i2 ∉ fp1
  m1 : i1 ∈ fp1
  m2 : i2 ∈ fp2
theorem ApartZ.i1z (D : ApartZ z TI TO i1 i2 fp1 fp2) : i1 ≠ z := fun e => D.z1 (e ▸ D.m1)
theorem ApartZ.i2z (D : ApartZ z TI TO i1 i2 fp1 fp2) : i2 ≠ z := fun e => D.z2 (e ▸ D.m2)
theorem ApartZ.TOi1 (D : ApartZ z TI TO i1 i2 fp1 fp2) : TO ≠ i1 := fun e => D.TO1 (e ▸ D.m1)
theorem ApartZ.TOi2 (D : ApartZ z TI TO i1 i2 fp1 fp2) : TO ≠ i2 := fun e => D.TO2 (e ▸ D.m2)
theorem stays_but {S : Nat → Heap → Prop} {fp : List Addr} {it c : Addr} {n j : Nat} {Pv : Nat → Value → Prop} {h h' : Heap} (D : Draws P w A it fp n Pv S) (st : S j h) (hc : c ∉ fp) (e : Heap.ExtBut c h h') : S j h' := D.frame j h h' st fun b hb o q => e b o (fun z => hc (z ▸ hb)) q
theorem zip_turn {Q : Value → Shared → Prop} (D : ApartZ z TI TO i1 i2 fp1 fp2) (D1 : Draws P w A i1 fp1 n1 P1 S1) (D2 : Draws P w A i2 fp2 n2 P2 S2) (hz : ZipF s.heap z TI TO f0 f) (h0 : OutOk f0) (hTI : IsPair s.heap TI (.ref i1) (.ref i2)) (hTO : IsPair s.heap TO a b)
    (h1 : S1 i s.heap) (h2 : S2 i s.heap) (lt1 : i < n1) (lt2 : i < n2)
    (hQ : ∀ x y h' tk f0' f' a' b', P1 i x → P2 i y → ZipF h' z TI TO f0' f' → OutOk f0' → (f0 = .none → f0' = rawInt s.heap.objs.size ∧ f' = false) → IsPair h' TO a' b' → S1 (i + 1) h' → S2 (i + 1) h' → IsPair h' s.heap.objs.size x y → h'.objs.size = s.heap.objs.size + 1 →
      (∀ c o, c ≠ z → c ≠ TO → c ≠ i1 → c ≠ i2 → s.heap.get? c = some o → h'.get? c = some o) → Q (.ref s.heap.objs.size) { s with heap := h', toks := tk }) :
    wpAny (model P w) A (Builtin.«zip.__next__» ⟨[.ref z], []⟩) (fun fin s' => ∃ v, fin = .done (.ret v) ∧ Q v s') E s := by
  refine wpAny_bind (m := field (.ref z) 2) (wpAny_field hz rfl (x := .bool false) rfl ?_)
  refine wpAny_bind (m := field (.ref z) 3) (wpAny_field hz rfl (x := .ref TI) rfl (wpAny_bind (wpAny_seqItems hTI rfl ?_)))
  refine wpAny_bind (m := Builtin.SmallTypes.ownedTupleIsFree (.ref z)) (zip_asks hz h0 ?_ fun nn g1 z1 s1 => ?_)
  · simp only [if_true]
    refine wpAny_bind (wpAny_rule (wpAny_bind (wpAny_field hz rfl (x := .ref TO) rfl (wpAny_bind (wpAny_setField_rec hz (by simp) fun g1 z1 s1 => wpAny_bind ?_)))))
    replace z1 : ZipF g1 z TI TO .ellipsis f := z1
    simp only [List.zipIdx_cons, List.zipIdx_nil, List.forIn_cons, List.forIn_nil]
    refine wpAny_bind (wpAny_bind (wpAny_onRaise ?_))
    refine wpAny_bind (m := Builtin.SmallTypes.nextOf (.ref i1)) (D1.item i { s with heap := g1 } _ _ lt1 (stays_but D1 h1 D.z1 s1.extBut) fun x g2 t2 px a2 s2 => wpAny_pure ?_)
    have p2 : IsPair g2 TO a b := s2.extBut _ _ D.TOi1 (s1.extBut _ _ D.TOz hTO)
    refine wpAny_bind (wpAny_seqItems (s := { s with heap := g2, toks := t2 }) p2 rfl (wpAny_bind (wpAny_updateSeq_pair (s := { s with heap := g2, toks := t2 }) p2 fun g3 p3 s3 => wpAny_bind (wpAny_letGo (wpAny_pure ?_)))))
    replace p3 : IsPair g3 TO x b := p3
    replace s3 : Heap.SameBut TO g2 g3 := s3
    refine wpAny_bind (wpAny_bind (wpAny_onRaise ?_))
    refine wpAny_bind (m := Builtin.SmallTypes.nextOf (.ref i2)) (D2.item i { s with heap := g3, toks := t2 } _ _ lt2 (stays_but D2 (stays_but D2 (stays_but D2 h2 D.z2 s1.extBut) D.i12 s2.extBut) D.TO2 s3.extBut) fun y g4 t4 py b4 s4 => wpAny_pure ?_)
    have p4 : IsPair g4 TO x b := s4.extBut _ _ D.TOi2 p3
    refine wpAny_bind (wpAny_seqItems (s := { s with heap := g4, toks := t4 }) p4 rfl (wpAny_bind (wpAny_updateSeq_pair (s := { s with heap := g4, toks := t4 }) p4 fun g5 p5 s5 => wpAny_bind (wpAny_letGo (wpAny_pure (wpAny_pure ?_))))))
    replace p5 : IsPair g5 TO x y := p5
    replace s5 : Heap.SameBut TO g4 g5 := s5
    replace s4 : Heap.SameBut i2 g3 g4 := s4
    refine wpAny_bind (wpAny_seqItems (s := { s with heap := g5, toks := t4 }) p5 rfl (wpAny_bind (wpAny_newTuple ?_)))
    have sz : g5.objs.size = s.heap.objs.size := by rw [s5.1, s4.1, s3.1, s2.1, s1.1]
    have z5 : ZipF g5 z TI TO .ellipsis f := s5.extBut _ _ D.TOz.symm (s4.extBut _ _ D.i2z.symm (s3.extBut _ _ D.TOz.symm (s2.extBut _ _ D.i1z.symm z1)))
    have old : ∀ c o, c ≠ z → c ≠ TO → c ≠ i1 → c ≠ i2 → s.heap.get? c = some o → g5.get? c = some o := fun c o c1 c2 c3 c4 e => s5.extBut _ _ c2 (s4.extBut _ _ c4 (s3.extBut _ _ c2 (s2.extBut _ _ c3 (s1.extBut _ _ c1 e))))
    have a5 : S1 (i + 1) g5 := stays_but D1 (stays_but D1 (stays_but D1 a2 D.TO1 s3.extBut) D.i21 s4.extBut) D.TO1 s5.extBut
    have b5 : S2 (i + 1) g5 := stays_but D2 b4 D.TO2 s5.extBut
    have zl : z < g5.objs.size := Heap.lt_size z5
    refine wpAny_bind (m := Builtin.SmallTypes.ownedTupleHandOut (.ref z) (.ref g5.objs.size)) ?_
    unfold Builtin.SmallTypes.ownedTupleHandOut
    have z6 : ZipF (g5.push { cls := .type "tuple", data := .seq #[x, y] }) z TI TO .ellipsis f := Heap.get?_push_of_some _ z5
    refine wpAny_bind (wpAny_setField_rec (s := { s with heap := g5.push { cls := .type "tuple", data := .seq #[x, y] }, toks := t4 }) z6 (by simp) fun g7 z7 s7 => ?_)
    replace z7 : ZipF g7 z TI TO (rawInt g5.objs.size) f := z7
    refine wpAny_setField_rec (s := { s with heap := g7, toks := t4 }) z7 (by simp) fun g8 z8 s8 => ?_
    replace z8 : ZipF g8 z TI TO (rawInt g5.objs.size) false := z8
    replace s7 : Heap.SameBut z (g5.push { cls := .type "tuple", data := .seq #[x, y] }) g7 := s7
    replace s8 : Heap.SameBut z g7 g8 := s8
    have up : ∀ c o, c ≠ z → g5.get? c = some o → g8.get? c = some o := fun c o c1 e => s8.extBut _ _ c1 (s7.extBut _ _ c1 (Heap.get?_push_of_some _ e))
    have pair : IsPair g8 g5.objs.size x y := s8.extBut _ _ (Nat.ne_of_gt zl) (s7.extBut _ _ (Nat.ne_of_gt zl) (Heap.get?_push_size _ rfl))
    have sz8 : g8.objs.size = g5.objs.size + 1 := by rw [s8.1, s7.1, Heap.size_push]
    refine wpAny_pure ⟨_, rfl, ?_⟩
    show Q (.ref g5.objs.size) _
    rw [sz] at pair sz8 ⊢
    rw [sz] at z8
    exact hQ x y g8 t4 _ _ x y px py z8 (.inr ⟨_, rfl⟩) (fun _ => ⟨rfl, rfl⟩) (up _ _ D.TOz p5) (D1.frame _ _ _ a5 fun c hc o e => up c o (fun q => D.z1 (q ▸ hc)) e) (D2.frame _ _ _ b5 fun c hc o e => up c o (fun q => D.z2 (q ▸ hc)) e) pair sz8 fun c o c1 c2 c3 c4 e => up c o c1 (old c o c1 c2 c3 c4 e)
  · simp only [Bool.false_eq_true, if_false]
    refine wpAny_bind ?_
    rw [← Array.forIn_toList]
    simp only [List.forIn_cons, List.forIn_nil]
    refine wpAny_bind (wpAny_bind (wpAny_holding ?_))
    refine wpAny_bind (m := Builtin.SmallTypes.nextOf (.ref i1)) (D1.item i { s with heap := g1 } _ _ lt1 (stays_but D1 h1 D.z1 s1.extBut) fun x g2 t2 px a2 s2 => wpAny_pure (wpAny_pure ?_))
    refine wpAny_bind (wpAny_bind (wpAny_holding ?_))
    refine wpAny_bind (m := Builtin.SmallTypes.nextOf (.ref i2)) (D2.item i { s with heap := g2, toks := t2 } _ _ lt2 (stays_but D2 (stays_but D2 h2 D.z2 s1.extBut) D.i12 s2.extBut) fun y g3 t3 py b3 s3 => wpAny_pure (wpAny_pure (wpAny_pure ?_)))
    replace s2 : Heap.SameBut i1 g1 g2 := s2
    replace s3 : Heap.SameBut i2 g2 g3 := s3
    refine wpAny_bind (m := newTuple [x, y]) (wpAny_newTuple ?_)
    have sz : g3.objs.size = s.heap.objs.size := by rw [s3.1, s2.1, s1.1]
    have z3 : ZipF g3 z TI TO f0 true := s3.extBut _ _ D.i2z.symm (s2.extBut _ _ D.i1z.symm z1)
    have old : ∀ c o, c ≠ z → c ≠ i1 → c ≠ i2 → s.heap.get? c = some o → g3.get? c = some o := fun c o c1 c2 c3 e => s3.extBut _ _ c3 (s2.extBut _ _ c2 (s1.extBut _ _ c1 e))
    have up : ∀ c o, g3.get? c = some o → (g3.push { cls := .type "tuple", data := .seq #[x, y] }).get? c = some o := fun c o e => Heap.get?_push_of_some _ e
    refine wpAny_pure ⟨_, rfl, ?_⟩
    show Q (.ref g3.objs.size) _
    have pair : IsPair (g3.push { cls := .type "tuple", data := .seq #[x, y] }) g3.objs.size x y := Heap.get?_push_size _ rfl
    have sz4 : (g3.push { cls := .type "tuple", data := .seq #[x, y] }).objs.size = g3.objs.size + 1 := Heap.size_push ..
    rw [sz] at pair sz4 ⊢
    exact hQ x y _ t3 f0 true a b px py (up _ _ z3) h0 (fun q => absurd q nn) (up _ _ (old _ _ D.TOz D.TOi1 D.TOi2 hTO)) (D1.frame _ _ _ (stays_but D1 a2 D.i21 s3.extBut) fun c _ o e => up c o e) (D2.frame _ _ _ b3 fun c _ o e => up c o e) pair sz4 fun c o c1 _ c3 c4 e => up c o (old c o c1 c3 c4 e)
theorem zip_stop {Q : PySem.Fin → Shared → Prop} (D : ApartZ z TI TO i1 i2 fp1 fp2) (D1 : Draws P w A i1 fp1 n1 P1 S1) (D2 : Draws P w A i2 fp2 n2 P2 S2) (hz : ZipF s.heap z TI TO f0 f) (h0 : OutOk f0) (hTI : IsPair s.heap TI (.ref i1) (.ref i2)) (hTO : IsPair s.heap TO a b)
    (h1 : S1 i s.heap) (h2 : S2 i s.heap) (fin : i = n1 ∨ (i < n1 ∧ i = n2))
    (hE : ∀ h' tk e, (∀ c o, c ≠ z → c ≠ TO → c ≠ i1 → c ≠ i2 → s.heap.get? c = some o → h'.get? c = some o) → (∃ o, h'.get? e = some o ∧ o.cls = .type "StopIteration") → E (.ref e) { s with heap := h', toks := tk }) :
    wpAny (model P w) A (Builtin.«zip.__next__» ⟨[.ref z], []⟩) Q E s := by
  have other : ∀ {g : Heap} {e : Addr} {v : Value} {b : Bool}, ZipF g z TI TO v b → (∃ o, g.get? e = some o ∧ o.cls = .type "StopIteration") → e ≠ z := by
    rintro g e v b hz ⟨o, ho, hc⟩ rfl
    rw [hz] at ho
    cases ho
    simp at hc
  refine wpAny_bind (m := field (.ref z) 2) (wpAny_field hz rfl (x := .bool false) rfl ?_)
  refine wpAny_bind (m := field (.ref z) 3) (wpAny_field hz rfl (x := .ref TI) rfl (wpAny_bind (wpAny_seqItems hTI rfl ?_)))
  refine wpAny_bind (m := Builtin.SmallTypes.ownedTupleIsFree (.ref z)) (zip_asks hz h0 ?_ fun nn g1 z1 s1 => ?_)
  · simp only [if_true]
    refine wpAny_bind (wpAny_rule (wpAny_bind (wpAny_field hz rfl (x := .ref TO) rfl (wpAny_bind (wpAny_setField_rec hz (by simp) fun g1 z1 s1 => wpAny_bind ?_)))))
    replace z1 : ZipF g1 z TI TO .ellipsis f := z1
    simp only [List.zipIdx_cons, List.zipIdx_nil, List.forIn_cons, List.forIn_nil]
    refine wpAny_bind (wpAny_bind (wpAny_onRaise ?_))
    have st1 := stays_but D1 h1 D.z1 s1.extBut
    refine wpAny_bind (m := Builtin.SmallTypes.nextOf (.ref i1)) ?_
    rcases fin with rfl | ⟨lt, rfl⟩
    · refine D1.done { s with heap := g1 } _ _ st1 fun g2 e s2 he => ?_
      have z2 : ZipF g2 z TI TO .ellipsis f := s2 _ _ D.i1z.symm z1
      have ne := other z2 he
      refine wpAny_setField_rec (s := { s with heap := g2 }) z2 (by simp) fun g3 _ s3 => hE g3 s.toks e (fun c o c1 _ c3 _ q => s3.extBut _ _ c1 (s2 _ _ c3 (s1.extBut _ _ c1 q))) ?_
      obtain ⟨o, ho, hc⟩ := he
      exact ⟨o, s3.extBut _ _ ne ho, hc⟩
    · refine D1.item i { s with heap := g1 } _ _ lt st1 fun x g2 t2 px a2 s2 => wpAny_pure ?_
      have p2 : IsPair g2 TO a b := s2.extBut _ _ D.TOi1 (s1.extBut _ _ D.TOz hTO)
      refine wpAny_bind (wpAny_seqItems (s := { s with heap := g2, toks := t2 }) p2 rfl (wpAny_bind (wpAny_updateSeq_pair (s := { s with heap := g2, toks := t2 }) p2 fun g3 p3 s3 => wpAny_bind (wpAny_letGo (wpAny_pure ?_)))))
      replace s3 : Heap.SameBut TO g2 g3 := s3
      refine wpAny_bind (wpAny_bind (wpAny_onRaise ?_))
      refine wpAny_bind (m := Builtin.SmallTypes.nextOf (.ref i2)) (D2.done { s with heap := g3, toks := t2 } _ _ (stays_but D2 (stays_but D2 (stays_but D2 h2 D.z2 s1.extBut) D.i12 s2.extBut) D.TO2 s3.extBut) fun g4 e s4 he => ?_)
      have z4 : ZipF g4 z TI TO .ellipsis f := s4 _ _ D.i2z.symm (s3.extBut _ _ D.TOz.symm (s2.extBut _ _ D.i1z.symm z1))
      have ne := other z4 he
      refine wpAny_setField_rec (s := { s with heap := g4, toks := t2 }) z4 (by simp) fun g5 _ s5 => hE g5 t2 e (fun c o c1 c2 c3 c4 q => s5.extBut _ _ c1 (s4 _ _ c4 (s3.extBut _ _ c2 (s2.extBut _ _ c3 (s1.extBut _ _ c1 q))))) ?_
      obtain ⟨o, ho, hc⟩ := he
      exact ⟨o, s5.extBut _ _ ne ho, hc⟩
  · simp only [Bool.false_eq_true, if_false]
    refine wpAny_bind ?_
    rw [← Array.forIn_toList]
    simp only [List.forIn_cons, List.forIn_nil]
    refine wpAny_bind (wpAny_bind (wpAny_holding ?_))
    have st1 := stays_but D1 h1 D.z1 s1.extBut
    refine wpAny_bind (m := Builtin.SmallTypes.nextOf (.ref i1)) ?_
    rcases fin with rfl | ⟨lt, rfl⟩
    · exact D1.done { s with heap := g1 } _ _ st1 fun g2 e s2 he => hE g2 s.toks e (fun c o c1 _ c3 _ q => s2 _ _ c3 (s1.extBut _ _ c1 q)) he
    · refine D1.item i { s with heap := g1 } _ _ lt st1 fun x g2 t2 px a2 s2 => wpAny_pure (wpAny_pure ?_)
      refine wpAny_bind (wpAny_bind (wpAny_holding ?_))
      exact wpAny_bind (m := Builtin.SmallTypes.nextOf (.ref i2)) (D2.done { s with heap := g2, toks := t2 } _ _ (stays_but D2 (stays_but D2 h2 D.z2 s1.extBut) D.i12 s2.extBut) fun g3 e s3 he => hE g3 t2 e (fun c o c1 _ c3 c4 q => s3 _ _ c4 (s2.extBut _ _ c3 (s1.extBut _ _ c1 q))) he)
end
end
end AP
namespace AP
noncomputable section
open PySem PySem.Spec PyProof.Rows L2
section
variable {P : Program} {w : World} {A : Around} {E : Value → Shared → Prop} {s : Shared} {e it : Addr} {c : Int} {old : Value}
end
end
end AP

namespace AP
noncomputable section
open PySem PySem.Spec PyProof.Rows L2
abbrev tupO (u v : Value) : Obj := { cls := .type "tuple", data := .seq #[u, v] }
theorem pair_ok {P : Program} {w : World} {H : Hp} {h : Heap} {T : Addr} {x y : V} {u v : Value} (hT : h.get? T = some (tupO u v)) (ru : RelV x u) (rv : RelV y v) : ObjOk P w H h T (.frz (tupO u v) (.tup [x, y])) :=
  ⟨hT, by show 2 ≤ sizeLine; decide, [u, v], .cons ru (.cons rv .nil), ⟨_, hT, rfl, _, rfl⟩⟩
def SqB : Bool → PySem.W.Frag → Hp → Addr → List V → Prop
  | true, K, H, a, xs => SqT K H a xs
  | false, K, H, a, xs => SqL K H a xs
def SeqB : Bool → Addr → Array Value → Heap → Prop
  | true, a, its, h => h.IsTuple a its
  | false, a, its, h => h.IsList a its
def StB : Bool → Addr → Addr → Array Value → Nat → Heap → Prop
  | true, it, a, its, i, h => h.IsTupleIter it a i ∧ h.IsTuple a its
  | false, it, a, its, i, h => h.IsListIter it a i ∧ h.IsList a its
def ItrB : Bool → Addr → Addr → Nat → Heap → Prop
  | true, it, a, i, h => h.IsTupleIter it a i
  | false, it, a, i, h => h.IsListIter it a i
def iterO : Bool → Addr → Obj
  | true, a => { cls := .type "tuple_iterator", data := .fields #[.ref a, .int 0 0] }
  | false, a => { cls := .type "list_iterator", data := .fields #[.ref a, .int 0 0] }
theorem drawsB {P : Program} {w : World} {A : Around} (hh : A.handled = none) (t : Bool) {it a : Addr} (ne : a ≠ it) (its : Array Value) : Draws P w A it [it, a] its.size (fun i v => its[i]? = some v) (StB t it a its) := by
  cases t with
  | true => exact Draws.tuple hh it a ne its
  | false => exact Draws.list hh it a ne its
theorem beginsB (t : Bool) (a : Addr) (its : Array Value) : Begins (.ref a) (iterO t a) (SeqB t a its) := by
  cases t with
  | true => exact begins_tuple a its
  | false => exact begins_list a its
section
variable {X : Cx} {pins : List (Addr × Obj)} {σ : L2.St} {H : Hp} {s : Shared} {t : Bool} {a it : Addr} {xs ys : List V}
theorem seqB (I : Inv X pins σ H s) (h : SqB t X.K H a xs) : ∃ its, Vals xs its ∧ SeqB t a its.toArray s.heap := by
  cases t with
  | true => obtain ⟨its, r, p, _⟩ := I.tuple h; exact ⟨its, r, p⟩
  | false => obtain ⟨its, r, p, _⟩ := I.list h; exact ⟨its, r, p.isList⟩
theorem injB (I : Inv X pins σ H s) (h : SqB t X.K H a xs) (h2 : SqB t X.K H a ys) : xs = ys := by
  cases t with
  | true => exact I.tuple_inj h h2
  | false => exact I.list_inj h h2
theorem SeqB.lt {its : Array Value} {h : Heap} (q : SeqB t a its h) : a < h.objs.size := by
  cases t with
  | true => obtain ⟨_, e, _⟩ := q; exact Heap.lt_size e
  | false => obtain ⟨_, e, _⟩ := q; exact Heap.lt_size e
theorem ItrB.get {i : Nat} {h : Heap} (q : ItrB t it a i h) : ∃ o, h.get? it = some o ∧ ∀ v, o.data ≠ .cell v := by
  cases t with
  | true => obtain ⟨o, e, _, d⟩ := q; exact ⟨o, e, fun v z => by rw [d] at z; cases z⟩
  | false => obtain ⟨o, e, _, d⟩ := q; exact ⟨o, e, fun v z => by rw [d] at z; cases z⟩
theorem ItrB.keep {i : Nat} {h h' : Heap} (q : ItrB t it a i h) (k : ∀ o, h.get? it = some o → h'.get? it = some o) : ItrB t it a i h' := by
  cases t with
  | true => exact Heap.IsTupleIter.at q fun o e => k o e
  | false => exact Heap.IsListIter.at q fun o e => k o e
theorem StB.of {i : Nat} {h : Heap} {its : Array Value} (q : ItrB t it a i h) (p : SeqB t a its h) : StB t it a its i h := by
  cases t with
  | true => exact ⟨q, p⟩
  | false => exact ⟨q, p⟩
theorem StB.itr {i : Nat} {h : Heap} {its : Array Value} (q : StB t it a its i h) : ItrB t it a i h := by
  cases t with
  | true => exact q.1
  | false => exact q.1
end
def ItZB (t1 t2 : Bool) (K : PySem.W.Frag) (a b : Addr) : It where
  go i H := ∃ (xs ys : List V) (x y : V), SqB t1 K H a xs ∧ SqB t2 K H b ys ∧ xs[i]? = some x ∧ ys[i]? = some y
  yld i H v H' := ∃ T x y, v = .ref T ∧ H T = none ∧ (∃ o : Obj, o.dict = none ∧ H' = upd H T (.frz o (.tup [x, y]))) ∧ (∀ xs, SqB t1 K H a xs → xs[i]? = some x) ∧ ∀ ys, SqB t2 K H b ys → ys[i]? = some y
  stop i H := ∃ xs ys : List V, SqB t1 K H a xs ∧ SqB t2 K H b ys ∧ i = min xs.length ys.length
def AtZB (t1 t2 : Bool) (a b z TI TO i1 i2 : Addr) (i : Nat) (h : Heap) : Prop := ZipF h z TI TO .none false ∧ IsPair h TI (.ref i1) (.ref i2) ∧ (∃ x y, IsPair h TO x y) ∧ ItrB t1 i1 a i h ∧ ItrB t2 i2 b i h
theorem fp5 {X : Cx} {pins : List (Addr × Obj)} {H : Hp} {c n : Nat} {o : HO} (h : FpOk X pins H c) (lt : c < n) : (upd H n o) c = none := by
  rw [upd_ne (Nat.ne_of_lt lt)]
  exact h.1
theorem turn_ZB {P : Program} {w : World} {K : PySem.W.Frag} {elts : List Expr} {kk : Nat} {tpos : Pos} {t1 t2 : Bool} {a b z TI TO i1 i2 : Addr} (D : ApartZ z TI TO i1 i2 [i1, a] [i2, b]) (n1 : a ≠ i1) (n2 : b ≠ i2) :
    Turn P w K (.Tuple elts kk tpos) (ItZB t1 t2 K a b) [z, TI, TO, i1, i2] z (AtZB t1 t2 a b z TI TO i1 i2) where
  mem := by simp
  obj := by
    rintro i h ⟨hz, hTI, ⟨x, y, hTO⟩, h1, h2⟩ c hc
    simp only [List.mem_cons, List.not_mem_nil, or_false] at hc
    rcases hc with rfl | rfl | rfl | rfl | rfl
    · exact ⟨_, hz, fun v q => nomatch q⟩
    · exact ⟨_, hTI, fun v q => nomatch q⟩
    · exact ⟨_, hTO, fun v q => nomatch q⟩
    · exact h1.get
    · exact h2.get
  keep := by
    rintro i h h' ⟨hz, hTI, ⟨x, y, hTO⟩, h1, h2⟩ k
    exact ⟨k z (by simp) _ hz, k TI (by simp) _ hTI, ⟨x, y, k TO (by simp) _ hTO⟩, h1.keep fun o q => k i1 (by simp) o q, h2.keep fun o q => k i2 (by simp) o q⟩
  item := by
    rintro X rfl rfl rfl hc i pins s σ H E I hf ⟨hz, hTI, ⟨x0, y0, hTO⟩, h1, h2⟩ ⟨xs, ys, x, y, hqx, hqy, hx, hy⟩
    obtain ⟨us, rv, p⟩ := seqB I hqx
    obtain ⟨vs, rv2, p2⟩ := seqB I hqy
    obtain ⟨u, hu, ru⟩ := rv.get hx
    obtain ⟨v, hv, rv⟩ := rv2.get hy
    have lt : ∀ c ∈ [z, TI, TO, i1, i2], c < s.heap.objs.size := by
      obtain ⟨_, q1, _⟩ := h1.get
      obtain ⟨_, q2, _⟩ := h2.get
      simp only [List.forall_mem_cons]
      exact ⟨Heap.lt_size hz, Heap.lt_size hTI, Heap.lt_size hTO, Heap.lt_size q1, Heap.lt_size q2, fun _ q => nomatch q⟩
    have hh : X.A.in1.handled = none := by simpa using I.ok.hd hc
    have lu : i < us.toArray.size := by
      have := (List.getElem?_eq_some_iff.mp hu).1
      simpa using this
    have lv : i < vs.toArray.size := by
      have := (List.getElem?_eq_some_iff.mp hv).1
      simpa using this
    have hT : s.TypeIs (.ref z) "zip" := ⟨_, hz, rfl⟩
    unfold pyNext
    refine wpAny_bind (wpAny_attempt (wpAny_callSpecial?_slot (name := Str.ofString "__next__") hT F.slot_zip_next (wpAny_call_entry F.slot_zip_next hT F.entry_zip_next
      (zip_turn (i := i) D (drawsB hh t1 n1 us.toArray) (drawsB hh t2 n2 vs.toArray) hz (.inl rfl) hTI hTO (StB.of h1 p) (StB.of h2 p2) lu lv fun x1 y1 g tk f0' f' a' b' px py c1 c2 c3 c4 c5 c6 c7 c8 c9 => wpAny_pure ?_) (F.args_zip_next_1 _))))
    obtain ⟨rfl, rfl⟩ := c3 rfl
    obtain rfl : x1 = u := Option.some.inj (px.symm.trans (by simpa using hu))
    obtain rfl : y1 = v := Option.some.inj (py.symm.trans (by simpa using hv))
    refine ⟨_, rfl, wpAny_letOwnedTupleGo_zip (s := { s with heap := g, toks := tk }) c1 fun g2 z2 sb => ?_⟩
    replace sb : Heap.SameBut z g g2 := sb
    have up : ∀ c o, c ≠ z → g.get? c = some o → g2.get? c = some o := fun c o h q => (sb.2 c h).trans q
    have nI : Inv X pins σ (upd H s.heap.objs.size (.frz (tupO x1 y1) (.tup [x, y]))) { s with heap := g2, toks := tk } := I.turnedNew (t' := tk) (ch := [z, TI, TO, i1, i2]) (fun c o hb q => by
      simp only [List.mem_cons, List.not_mem_nil, or_false, not_or] at hb
      exact up c o hb.1 (c9 c o hb.1 hb.2.2.1 hb.2.2.2.1 hb.2.2.2.2 q)) hf (Nat.le_refl _) (pair_ok (up _ _ (Nat.ne_of_gt (lt z (by simp))) c7) ru rv)
    refine ⟨.ref _, _, nI, rfl, ⟨_, x, y, rfl, I.hok.fresh (Nat.le_refl _), ⟨_, rfl, rfl⟩, fun l hl => by rw [injB I hl hqx]; exact hx, fun l hl => by rw [injB I hl hqy]; exact hy⟩,
      ⟨z2, up _ _ D.TIz (c9 _ _ D.TIz D.TITO D.TI1 D.TI2 hTI), ⟨a', b', up _ _ D.TOz c4⟩, c5.itr.keep fun o q => up _ o D.i1z q, c6.itr.keep fun o q => up _ o D.i2z q⟩, fun c hcm => fp5 (hf c hcm) (lt c hcm)⟩
  done := by
    rintro X rfl rfl rfl hc i pins s σ H E I hf ⟨hz, hTI, ⟨x0, y0, hTO⟩, h1, h2⟩ ⟨xs, ys, hqx, hqy, fin⟩
    obtain ⟨us, rv, p⟩ := seqB I hqx
    obtain ⟨vs, rv2, p2⟩ := seqB I hqy
    have l1 := rv.length
    have l2 := rv2.length
    have hh : X.A.in1.handled = none := by simpa using I.ok.hd hc
    have hT : s.TypeIs (.ref z) "zip" := ⟨_, hz, rfl⟩
    unfold pyNext
    refine wpAny_bind (wpAny_attempt (wpAny_callSpecial?_slot (name := Str.ofString "__next__") hT F.slot_zip_next (wpAny_call_entry F.slot_zip_next hT F.entry_zip_next
      (zip_stop (i := i) D (drawsB hh t1 n1 us.toArray) (drawsB hh t2 n2 vs.toArray) hz (.inl rfl) hTI hTO (StB.of h1 p) (StB.of h2 p2) (by simp only [List.size_toArray]; omega) fun g tk e k he => ?_) (F.args_zip_next_1 _))))
    obtain ⟨o, ho, hco⟩ := he
    refine wpAny_bind (wpAny_isInstance (T := "StopIteration") (b := true) ⟨o, ho, hco⟩ isSubtype_stop (wpAny_pure ⟨rfl, I.turnedL (t' := tk) (ch := [z, TI, TO, i1, i2]) (fun c o hb q => ?_) hf⟩))
    simp only [List.mem_cons, List.not_mem_nil, or_false, not_or] at hb
    exact k c o hb.1 hb.2.2.1 hb.2.2.2.1 hb.2.2.2.2 q
  self := fun A i s Q E st h => wpAny_pyIter_zip st.1 h
end
end AP
namespace AP
noncomputable section
open PySem PySem.Spec PyProof.Rows L2
section
variable {P : Program} {w : World} {A : Around} {E : Value → Shared → Prop} {s : Shared}
def zipHp (h : Heap) (o1 o2 : Obj) : Heap := ((((h.push o1).push o2).push { cls := .type "tuple", data := .seq #[.ref h.objs.size, .ref (h.push o1).objs.size] }).push { cls := .type "tuple", data := .seq #[.none, .none] }).push
  { cls := .type "zip", data := .fields #[.none, .bool false, .bool false, .ref ((h.push o1).push o2).objs.size, .ref (((h.push o1).push o2).push { cls := .type "tuple", data := .seq #[.ref h.objs.size, .ref (h.push o1).objs.size] }).objs.size] }
def zipAd (h : Heap) (o1 o2 : Obj) : Addr := ((((h.push o1).push o2).push { cls := .type "tuple", data := .seq #[.ref h.objs.size, .ref (h.push o1).objs.size] }).push { cls := .type "tuple", data := .seq #[.none, .none] }).objs.size
theorem zip_new {v1 v2 : Value} {o1 o2 : Obj} {H1 H2 : Heap → Prop} (B1 : Begins v1 o1 H1) (B2 : Begins v2 o2 H2) :
    Meets (Builtin.«zip.__new__» ⟨[.type "zip", v1, v2], []⟩) (fun _ R s => H1 s.heap ∧ H2 s.heap ∧ R (.ok (.ret (.ref (zipAd s.heap o1 o2)))) { s with heap := zipHp s.heap o1 o2 }) :=
  .of_wp fun prog w A R s h => by
    obtain ⟨hp, g, d, tk, os⟩ := s
    obtain ⟨q1, q2, h⟩ := h
    have hsub := sub_zip
    have i1 : ∀ {A' : Around} {E : Value → Shared → Prop} {Q : Value → Shared → Prop}, Q (.ref hp.objs.size) ⟨hp.push o1, g, d, tk, os⟩ → wpAny (model prog w) A' (pyIter v1) Q E ⟨hp, g, d, tk, os⟩ := fun q => B1.iter prog w _ _ ⟨hp, g, d, tk, os⟩ _ q1 q
    have i2 : ∀ {A' : Around} {E : Value → Shared → Prop} {Q : Value → Shared → Prop}, Q (.ref (hp.push o1).objs.size) ⟨(hp.push o1).push o2, g, d, tk, os⟩ → wpAny (model prog w) A' (pyIter v2) Q E ⟨hp.push o1, g, d, tk, os⟩ := fun q =>
      B2.iter prog w _ _ ⟨hp.push o1, g, d, tk, os⟩ _ (B2.keeps _ _ q2 fun b o e => Heap.get?_push_of_some _ e) q
    wp_walk using i1, i2
    exact ⟨_, rfl, h⟩
theorem call_zipB {v1 v2 : Value} {o1 o2 : Obj} {H1 H2 : Heap → Prop} {Q : Value → Shared → Prop} (B1 : Begins v1 o1 H1) (B2 : Begins v2 o2 H2) (h1 : H1 s.heap) (h2 : H2 s.heap)
    (h : ∀ h', ZipF h' (s.heap.objs.size + 4) (s.heap.objs.size + 2) (s.heap.objs.size + 3) .none false → IsPair h' (s.heap.objs.size + 2) (.ref s.heap.objs.size) (.ref (s.heap.objs.size + 1)) → IsPair h' (s.heap.objs.size + 3) .none .none →
      h'.get? s.heap.objs.size = some o1 → h'.get? (s.heap.objs.size + 1) = some o2 → (∀ c o, s.heap.get? c = some o → h'.get? c = some o) → h'.objs.size = s.heap.objs.size + 5 → Q (.ref (s.heap.objs.size + 4)) { s with heap := h' }) :
    wpAny (model P w) A (call (.type "zip") [v1, v2]) Q E s := by
  refine callType_new F.called_zip (by decide) (F.typeCall_zip_2 _ _) (F.newCall_zip_2 _ _) (fun obj => F.args_object_init_3 obj _ _) F.entry_zip_new (zip_new B1 B2) ⟨h1, h2, ?_⟩
  have z1 : (s.heap.push o1).objs.size = s.heap.objs.size + 1 := Heap.size_push ..
  have z2 : ((s.heap.push o1).push o2).objs.size = s.heap.objs.size + 2 := by rw [Heap.size_push, z1]
  have z4 : zipAd s.heap o1 o2 = s.heap.objs.size + 4 := by
    unfold zipAd
    rw [Heap.size_push, Heap.size_push, z2]
  have g : ∀ k, k = zipHp s.heap o1 o2 → ZipF k (s.heap.objs.size + 4) (s.heap.objs.size + 2) (s.heap.objs.size + 3) .none false ∧ IsPair k (s.heap.objs.size + 2) (.ref s.heap.objs.size) (.ref (s.heap.objs.size + 1)) ∧ IsPair k (s.heap.objs.size + 3) .none .none ∧
      k.get? s.heap.objs.size = some o1 ∧ k.get? (s.heap.objs.size + 1) = some o2 ∧ (∀ c o, s.heap.get? c = some o → k.get? c = some o) ∧ k.objs.size = s.heap.objs.size + 5 := by
    rintro k rfl
    unfold zipHp
    rw [z1, z2]
    have z3 : (((s.heap.push o1).push o2).push { cls := .type "tuple", data := .seq #[.ref s.heap.objs.size, .ref (s.heap.objs.size + 1)] }).objs.size = s.heap.objs.size + 3 := by rw [Heap.size_push, z2]
    rw [z3]
    have z5 : ((((s.heap.push o1).push o2).push { cls := .type "tuple", data := .seq #[.ref s.heap.objs.size, .ref (s.heap.objs.size + 1)] }).push { cls := .type "tuple", data := .seq #[.none, .none] }).objs.size = s.heap.objs.size + 4 := by rw [Heap.size_push, z3]
    refine ⟨?_, ?_, ?_, ?_, ?_, fun c o x => Heap.get?_push_of_some _ (Heap.get?_push_of_some _ (Heap.get?_push_of_some _ (Heap.get?_push_of_some _ (Heap.get?_push_of_some _ x)))), by rw [Heap.size_push, z5]⟩
    · have q := Heap.get?_push_size ((((s.heap.push o1).push o2).push { cls := .type "tuple", data := .seq #[.ref s.heap.objs.size, .ref (s.heap.objs.size + 1)] }).push { cls := .type "tuple", data := .seq #[.none, .none] })
        (o := { cls := .type "zip", data := .fields #[.none, .bool false, .bool false, .ref (s.heap.objs.size + 2), .ref (s.heap.objs.size + 3)] }) rfl
      rw [z5] at q
      exact q
    · have q := Heap.get?_push_size ((s.heap.push o1).push o2) (o := { cls := .type "tuple", data := .seq #[.ref s.heap.objs.size, .ref (s.heap.objs.size + 1)] }) rfl
      rw [z2] at q
      exact Heap.get?_push_of_some _ (Heap.get?_push_of_some _ q)
    · have q := Heap.get?_push_size (((s.heap.push o1).push o2).push { cls := .type "tuple", data := .seq #[.ref s.heap.objs.size, .ref (s.heap.objs.size + 1)] }) (o := { cls := .type "tuple", data := .seq #[.none, .none] }) rfl
      rw [z3] at q
      exact Heap.get?_push_of_some _ q
    · exact Heap.get?_push_of_some _ (Heap.get?_push_of_some _ (Heap.get?_push_of_some _ (Heap.get?_push_of_some _ (Heap.get?_push_size _ B1.free))))
    · have q := Heap.get?_push_size (s.heap.push o1) (o := o2) B2.free
      rw [z1] at q
      exact Heap.get?_push_of_some _ (Heap.get?_push_of_some _ (Heap.get?_push_of_some _ q))
  obtain ⟨a1, a2, a3, a4, a5, a6, a7⟩ := g _ rfl
  rw [z4]
  exact ⟨⟨_, a1, rfl⟩, h _ a1 a2 a3 a4 a5 a6 a7⟩
theorem itr_new {t : Bool} {it a : Addr} {h : Heap} (q : h.get? it = some (iterO t a)) : ItrB t it a 0 h := by
  cases t with
  | true => exact ⟨_, q, rfl, rfl⟩
  | false => exact ⟨_, q, rfl, rfl⟩
theorem apart5 (n a b : Nat) (h1 : a < n) (h2 : b < n) : ApartZ (n + 4) (n + 2) (n + 3) n (n + 1) [n, a] [n + 1, b] ∧ a ≠ n ∧ b ≠ n + 1 := by
  refine ⟨⟨?_, ?_, ?_, ?_, ?_, ?_, ?_, ?_, ?_, ?_, ?_, ?_, ?_⟩, ?_, ?_⟩
  all_goals (try simp only [List.mem_cons, List.not_mem_nil, or_false, not_or, true_or])
  all_goals (first | omega | (refine ⟨?_, ?_⟩ <;> (intro e; have e2 : (_ : Nat) = _ := e; omega)) | (intro e; have e2 : (_ : Nat) = _ := e; omega) | trivial)
end
end
end AP

namespace AP
noncomputable section
open PySem PySem.Spec PyProof.Rows L2 RZ
section
variable [Tbls] [Gd]
def iZipX (K : PySem.W.Frag) (ta : TA) : TI := fun σ H R => ta σ H fun vs H1 => ∃ t1 t2 a b xs ys, vs = [.ref a, .ref b] ∧ SqB t1 K H1 a xs ∧ SqB t2 K H1 b ys ∧ R (ItZB t1 t2 K a b) H1
theorem pi_zipX {X : Cx} {e e2 : Expr} {ta : TA} {p pos tpos : Pos} {elts : List Expr} {kk : Nat} (hg : Gl X "zip") (hm : X.mg "zip" = none) (ha : PA X [e, e2] ta)
    (hs : starEach [e, e2] X.env = (false, eval e X.env) :: starEach [e2] X.env := by rfl) (hpl : (backTo pos (starEach [e2] X.env)).any (·.1) = false := by rfl) :
    PI X (.Tuple elts kk tpos) (.Call (.Name "zip" p) [e, e2] [] pos) (iZipX X.K ta) := by
  refine ⟨fun pins s σ H R I h => Call_ (ld_blt I hg hm PyProof.Rows.boot_zip (PyProof.Rows.callWith_type1 (thn (ha.run pos pins s σ H _ I h) fun us s1 ⟨vs, H1, I1, r1, q1⟩ => ?_) hs hpl))⟩
  obtain ⟨t1, t2, a, b, xs, ys, rfl, hqx, hqy, q⟩ := q1
  obtain ⟨v1, v2, rfl, r, r'⟩ := vals2 r1
  cases r
  cases r'
  have new : ∀ c ∈ [s1.heap.objs.size + 4, s1.heap.objs.size + 2, s1.heap.objs.size + 3, s1.heap.objs.size, s1.heap.objs.size + 1], FpOk X pins H1 c := by
    have one : ∀ k, FpOk X pins H1 (s1.heap.objs.size + k) := fun k => I1.fpOk (Nat.le_add_right _ k) (I1.hok.fresh (Nat.le_add_right _ k))
    simp only [List.forall_mem_cons]
    exact ⟨one 4, one 2, one 3, one 0, one 1, fun _ q => nomatch q⟩
  obtain ⟨us, _, p1⟩ := seqB I1 hqx
  obtain ⟨vs, _, p2⟩ := seqB I1 hqy
  obtain ⟨D, n1, n2⟩ := apart5 s1.heap.objs.size a b p1.lt p2.lt
  exact call_zipB (beginsB t1 a us.toArray) (beginsB t2 b vs.toArray) p1 p2 fun g hz hTI hTO g1 g2 hk _ => wpAny_pyIter_zip hz ⟨_, _, _, _, H1, rfl, I1.kept (t' := s1.toks) hk, turn_ZB D n1 n2, ⟨hz, hTI, ⟨_, _, hTO⟩, itr_new g1, itr_new g2⟩, new, q⟩
theorem walk_zipX {K : PySem.W.Frag} {t1 t2 : Bool} {a b : Addr} {xs ys : List V} : L2.Walk (ItZB t1 t2 K a b) (min xs.length ys.length) (fun H => SqB t1 K H a xs ∧ SqB t2 K H b ys) (YPairF (fun i => xs[i]?) (fun i => ys[i]?)) := by
  refine ⟨fun i _ hi q => ?_, fun _ q => ⟨xs, ys, q.1, q.2, rfl⟩, fun i H v H' _ q ⟨T, x, y, h1, h2, h3, h4, h5⟩ => ⟨T, x, y, h1, h2, h3, h4 xs q.1, h5 ys q.2⟩⟩
  have h1 : i < xs.length := by omega
  have h2 : i < ys.length := by omega
  exact ⟨xs, ys, xs[i], ys[i], q.1, q.2, by simp [h1], by simp [h2]⟩
def seqZ : D → Option (List D)
  | .list xs => some xs
  | .tuple xs => some xs
  | _ => none
theorem seqZ_ok {Z : Zs} {M : List Addr} {H : Hp} {v : V} {x : D} {ds : List D} (h : Rp (zz Z M) H v x) (e : seqZ x = some ds) : ∃ t a xs, v = .ref a ∧ RpA (zz Z M) H xs ds ∧ ∀ M2 H2, Ext M H M2 H2 → ∀ K, SqB t K H2 a xs := by
  unfold seqZ at e
  split at e
  · cases e
    cases h with
    | lst z hx rx => exact ⟨false, _, _, rfl, rx, fun M2 H2 e K => SqL.of (e.keepz z hx)⟩
  · cases e
    cases h with
    | tup z hx rx => exact ⟨true, _, _, rfl, rx, fun M2 H2 e K => (hx.ext e z).sq⟩
  · cases e
def mZipX (a : AM) : IM := fun s => match a s with
  | some ([.d x, .d y], o1) => (match seqZ x, seqZ y with
    | some xs, some ys => some (zipD xs ys, o1)
    | _, _ => none)
  | _ => none
theorem si_zipX {K : PySem.W.Frag} {ta : TA} {a : AM} (ha : SnA ta a) : SnI (iZipX K ta) (mZipX a) := by
  intro Z M s σ H h items o' e R q
  unfold mZipX at e
  split at e
  · rename_i x y o1 ea
    split at e
    · rename_i xs ys ex ey
      cases e
      refine ha Z M s σ H h _ _ ea _ fun M1 vs H1 ⟨e1, m1⟩ h1 r1 => ?_
      subst m1
      cases r1 with
      | cons hx t =>
        cases t with
        | cons hy t2 =>
          cases t2
          obtain ⟨t1, a1, us, rfl, r1, k1⟩ := seqZ_ok (show Rp (zz Z _) H1 _ x from hx) ex
          obtain ⟨t2, a2, ws, rfl, r2, k2⟩ := seqZ_ok (show Rp (zz Z _) H1 _ y from hy) ey
          refine ⟨t1, t2, a1, a2, us, ws, rfl, k1 _ _ (Ext.refl _ _) K, k2 _ _ (Ext.refl _ _) K, q _ H1 e1 h1 ?_⟩
          exact src_pairF (walk_zipX (K := K)) (fun M2 H2 e => ⟨k1 M2 H2 e K, k2 M2 H2 e K⟩) (pair_of r1) (pair_of r2) _ (by rw [zipD_len, r1.length, r2.length]) fun i d e _ a b => zipD_get xs ys i d e a b
    · cases e
  · cases e
end
end
end AP

namespace AP
noncomputable section
open PySem PySem.Spec PyProof.Rows L2 RZ
open PySem.W (EachIs)
section
theorem rows_of : ∀ {qs : List (V × D)} {us : List Value}, Vals (qs.map (·.1)) us → ∃ bs : List (Value × V × D), bs.map (·.1) = us ∧ bs.map (·.2) = qs ∧ ∀ b ∈ bs, L2.RelV b.2.1 b.1
  | [], _, .nil => ⟨[], rfl, rfl, fun _ h => absurd h (by simp)⟩
  | q :: qs, u :: us, .cons r t => by
    obtain ⟨bs, h1, h2, h3⟩ := rows_of t
    refine ⟨(u, q) :: bs, by rw [List.map_cons, h1], by rw [List.map_cons, h2], fun b hb => ?_⟩
    rcases List.mem_cons.mp hb with rfl | hb
    · exact r
    · exact h3 b hb
theorem vals_rows : ∀ {bs : List (Value × V × D)}, (∀ b ∈ bs, L2.RelV b.2.1 b.1) → Vals ((bs.map (·.2)).map (·.1)) (bs.map (·.1))
  | [], _ => .nil
  | b :: bs, h => .cons (h b List.mem_cons_self) (vals_rows fun c hc => h c (List.mem_cons_of_mem _ hc))
theorem each_rows {h : Heap} : ∀ {bs : List (Value × V × D)}, (∀ b ∈ bs, ∃ as, Reads h b.1 b.2.2 as) → EachIs (fun v (b : Value × V × D) => ∃ as, Reads h v b.2.2 as) (bs.map (·.1)) bs
  | [], _ => .nil
  | b :: bs, h => .cons (h b List.mem_cons_self) (each_rows fun c hc => h c (List.mem_cons_of_mem _ hc))
def rSortL (K : PySem.W.Frag) : List V → Hp → VK → Prop := fun vs H Q => ∃ (l : Addr) (qs : List (V × D)), vs = [V.ref l] ∧ SqL K H l (qs.map (·.1)) ∧ (∀ q ∈ qs, Dp K H q.1 q.2) ∧ PySem.W.AllAlike (qs.map (·.2)) ∧ PySem.W.Sortable (qs.map (·.2)) ∧ (∀ q ∈ qs, q.2.depth ≤ 40) ∧ qs.length ≤ 1000 ∧
  ∀ (ys : List (V × D)) (p : Addr), ys.Perm qs → ys.Pairwise (fun a b => PySem.W.dataLt b.2 a.2 = false) → H p = none → Q (.ref p) (upd H p (.lst (ys.map (·.1))))
theorem cr_sortL {X : Cx} (hu : X.A.units + 64 < cLine) : CallR X (.builtin "sorted") (rSortL X.K) := by
  intro pins s σ H vs us Q I r h
  obtain ⟨l, qs, rfl, hq, dp, al, so, dep, few, q⟩ := h
  rw [Vals.ref1 r]
  obtain ⟨its, rv, pl, hz⟩ := I.list hq
  obtain ⟨bs, rfl, rfl, rel⟩ := rows_of rv
  have eb : ∀ f : V × D → D, (bs.map (·.2)).map f = bs.map fun b => f b.2 := fun f => by rw [List.map_map]; rfl
  rw [eb] at al so
  have mem : ∀ b ∈ bs, b.2 ∈ bs.map (·.2) := fun b hb => List.mem_map.mpr ⟨b, hb, rfl⟩
  refine PySem.W.sorted_data (bs := bs) (enc := fun b : Value × V × D => b.2.2) pl.isList (each_self (fun b : Value × V × D => b.1) bs) (each_rows fun b hb => Dp.reads I _ _ _ (dp _ (mem b hb)) (rel b hb)) al so (by
    rw [List.length_map] at few
    rw [sizeLine_eq]
    omega) (fun b hb => ?_) fun out _ eo => ?_
  · have := dep _ (mem b hb)
    omega
  · have e2 := each_out eo
    subst e2
    have pm := List.mergeSort_perm bs (PySem.W.dataLe false fun b : Value × V × D => b.2.2)
    obtain ⟨c, hc⟩ := PyProof.Rows.sortedAll_at s.heap (bs.map (·.1)) ((bs.mergeSort (PySem.W.dataLe false fun b : Value × V × D => b.2.2)).map (·.1)).toArray
    have rel2 := fun b hb => rel b (pm.mem_iff.mp hb)
    refine ⟨.ref _, upd H (s.heap.objs.size + 1) (.lst (((bs.mergeSort (PySem.W.dataLe false fun b : Value × V × D => b.2.2)).map (·.2)).map (·.1))), I.laid (t' := s.toks) (fun _ _ => PyProof.Rows.sortedAll_old) (Nat.le_succ _) ⟨?_, _, c, vals_rows rel2, hc⟩, rfl, q _ _ (pm.map _) ?_ (I.hok.fresh (Nat.le_succ _))⟩
    · rw [List.length_map, List.length_map, pm.length_eq, sizeLine_eq]
      rw [List.length_map] at few
      omega
    · exact List.pairwise_map.mpr (dataLe_pw (fun b : Value × V × D => b.2.2) bs)
variable [Tbls] [Gd]
def insD (k : D) : List D → List D
  | [] => [k]
  | y :: r => if PySem.W.dataLt k y = true then k :: y :: r else y :: insD k r
theorem insD_perm (k : D) : ∀ l : List D, (insD k l).Perm (k :: l)
  | [] => List.Perm.refl _
  | y :: r => by
    unfold insD
    split
    · exact List.Perm.refl _
    · exact ((insD_perm k r).cons y).trans (List.Perm.swap k y r)
def sortD : List D → List D
  | [] => []
  | k :: r => insD k (sortD r)
theorem sortD_perm : ∀ l : List D, (sortD l).Perm l
  | [] => List.Perm.refl _
  | k :: r => (insD_perm k _).trans ((sortD_perm r).cons k)
def pwD : List D → Bool
  | [] => true
  | k :: r => r.all (fun y => PySem.W.dataLt k y && !PySem.W.dataLt y k) && pwD r
theorem pwD_ok : ∀ {l : List D}, pwD l = true → l.Pairwise fun a b => PySem.W.dataLt b a = false
  | [], _ => .nil
  | k :: r, h => by
    simp only [pwD, Bool.and_eq_true, List.all_eq_true, Bool.not_eq_true'] at h
    exact .cons (fun y hy => (h.1 y hy).2) (pwD_ok h.2)
theorem pwD_two : ∀ {l : List D}, pwD l = true → ∀ a ∈ l, ∀ b ∈ l, PySem.W.dataLt a b = false → PySem.W.dataLt b a = false → a = b
  | [], _, a, ha, _, _, _, _ => absurd ha (by simp)
  | k :: r, h, a, ha, b, hb, h1, h2 => by
    have q := h
    simp only [pwD, Bool.and_eq_true, List.all_eq_true] at q
    rcases List.mem_cons.mp ha with e1 | e1 <;> rcases List.mem_cons.mp hb with e2 | e2
    · rw [e1, e2]
    · have z := (q.1 b e2).1
      rw [e1] at h1
      rw [h1] at z
      cases z
    · have z := (q.1 a e1).1
      rw [e2] at h2
      rw [h2] at z
      cases z
    · exact pwD_two q.2 a e1 b e2 h1 h2
def tup1 : D → Bool
  | .tuple (_ :: _) => true
  | _ => false
theorem tup1_ok {d : D} (h : tup1 d = true) : ∃ x r, d = .tuple (x :: r) := by
  unfold tup1 at h
  split at h
  · exact ⟨_, _, rfl⟩
  · cases h
def okL (ds : List D) : Bool := Nat.ble ds.length 1000 && (ds.all noD && (ds.all tup1 && (ds.all (fun d => ds.all fun e => PySem.W.alike d e) && (ds.all (fun d => Nat.ble d.depth 40) && pwD (sortD ds)))))
def gSortL : List D → Option D
  | [.list ds] => if okL ds = true then some (.list (sortD ds)) else none
  | _ => none
theorem rows_rp {Z : Zs} {H : Hp} : ∀ {xs : List V} {ds : List D}, RpA Z H xs ds → ∃ qs : List (V × D), qs.map (·.1) = xs ∧ qs.map (·.2) = ds ∧ ∀ q ∈ qs, Rp Z H q.1 q.2
  | _, _, .nil => ⟨[], rfl, rfl, fun _ h => absurd h (by simp)⟩
  | _, _, .cons (v := v) (d := d) h t => by
    obtain ⟨qs, h1, h2, h3⟩ := rows_rp t
    refine ⟨(v, d) :: qs, by rw [List.map_cons, h1], by rw [List.map_cons, h2], fun q hq => ?_⟩
    rcases List.mem_cons.mp hq with rfl | hq
    · exact h
    · exact h3 q hq
theorem rp_rows {Z : Zs} {H : Hp} : ∀ {qs : List (V × D)}, (∀ q ∈ qs, Rp Z H q.1 q.2) → RpA Z H (qs.map (·.1)) (qs.map (·.2))
  | [], _ => .nil
  | _ :: _, h => .cons (h _ List.mem_cons_self) (rp_rows fun q hq => h q (List.mem_cons_of_mem _ hq))
theorem rc_sortL {K : PySem.W.Frag} : RCD (rSortL K) gSortL := by
  intro Z H hz vs ds d r e Q q
  unfold gSortL at e
  split at e
  · rename_i ds
    split at e
    · rename_i ok
      cases e
      simp only [okL, Bool.and_eq_true, List.all_eq_true] at ok
      obtain ⟨c1, c2, c3, c4, c5, c6⟩ := ok
      cases r with
      | cons h t =>
        cases t
        obtain ⟨l, xs, rfl, hl, ra⟩ := h
        obtain ⟨qs, rfl, rfl, e3⟩ := rows_rp ra
        have mem : ∀ p ∈ qs, p.2 ∈ qs.map (·.2) := fun p hp => List.mem_map.mpr ⟨p, hp, rfl⟩
        refine ⟨l, qs, rfl, SqL.of hl, fun p hp => (e3 p hp).dp (c2 _ (mem p hp)), c4, .inl fun d hd => tup1_ok (c3 d hd), fun p hp => Nat.le_of_ble_eq_true (c5 _ (mem p hp)), by
          have := Nat.le_of_ble_eq_true c1
          rw [List.length_map] at this
          exact this, fun ys p pm pw hp => ?_⟩
        have e5 : ys.map (·.2) = sortD (qs.map (·.2)) := by
          have pm2 := (pm.map (·.2)).trans (sortD_perm (qs.map (·.2))).symm
          exact List.Perm.eq_of_pairwise (fun a b ha hb r1 r2 => pwD_two c6 a (pm2.mem_iff.mp ha) b hb r2 r1) (List.pairwise_map.mpr pw) (pwD_ok c6) pm2
        have n := New.upd (o := .lst (ys.map (·.1))) hp
        refine q _ _ n (.lst (fresh_nz hz hp) upd_same ?_)
        rw [← e5]
        exact rp_rows fun r hr => (e3 r (pm.mem_iff.mp hr)).new n
    · cases e
  · cases e
def rSortX (K : PySem.W.Frag) : List V → Hp → VK → Prop := fun xs H Q => rSortW K xs H Q ∨ rSortL K xs H Q
theorem cr_sortX {X : Cx} (hc : X.calm = true) (hu : X.A.units + 64 < cLine) : CallR X (.builtin "sorted") (rSortX X.K) := (cr_sortW hc).or (cr_sortL hu)
def gSortedX (ds : List D) : Option D := oel (gSortedW ds) (gSortL ds)
theorem rc_sortedX {K : PySem.W.Frag} : RCD (rSortX K) gSortedX := rc_sortedW.or rc_sortL
end
end
end AP

namespace AP
noncomputable section
open PySem PySem.Spec PyProof.Rows L2
end
end AP

namespace AP
noncomputable section
open PySem PySem.Spec PyProof.Rows L2 RZ
section
variable {P : Program} {w : World} {A : Around} {E : Value → Shared → Prop} {s : Shared} {env : Env}
variable [Tbls] [Gd]
end
end
end AP

namespace AP
noncomputable section
open PySem PySem.Spec PyProof.Rows L2 RZ
section
variable [Tbls] [Gd]
end
end
end AP

namespace AP
noncomputable section
open PySem PySem.Spec PyProof.Rows L2 RZ
section
variable [Tbls] [Gd]
end
end
end AP

namespace AP
noncomputable section
open PySem PySem.Spec PyProof.Rows L2 RZ
section
variable {P : Program} {w : World} {A : Around} {E : Value → Shared → Prop} {s : Shared}
end
section
variable [Tbls] [Gd]
end
end
end AP

namespace AP
noncomputable section
open PySem PySem.Spec PyProof.Rows L2 RZ
variable [Tbls] [Gd]
abbrev ErS := S → Option (Str × List (Str × D) × S)
structure SnIE (K : PySem.W.Frag) (ti : WX → TI) (im : IM) (ee : ErS) : Prop where
  ok : ∀ W, SnI (ti W) im
  er : ∀ Z M s σ H, Rel Z M s σ H → ∀ c fs s', ee s = some (c, fs, s') → ∀ (W : WX) (R : It → Hp → Prop), (∀ M' H' cls d, Ext M H M' H' → Rel Z M' s' σ H' → RX K (zz Z M') H' cls d c fs → W cls d σ H') → ti W σ H R
end
end AP

namespace AP
noncomputable section
open PySem PySem.Spec PyProof.Rows L2 RZ
section
variable [Tbls] [Gd]
end
end
end AP

namespace AP
noncomputable section
open PySem PySem.Spec PyProof.Rows L2 RZ
section
variable [Tbls] [Gd]
end
end
end AP

namespace AP
noncomputable section
open PySem PySem.Spec PyProof.Rows L2 RZ
section
variable [Tbls] [Gd]
end
end
end AP

namespace AP
noncomputable section
open PySem PySem.Spec PyProof.Rows L2
def keyS (e : Int × Value) : Str := match e.2 with | .str x _ => x | _ => Str.empty
def GoodS (w : World) (e : Int × Value) : Prop := ∃ x tk, e.2 = Value.str x tk ∧ e.1 = hashStr w x
def SetS (w : World) (h : Heap) (a : Addr) (L : List Str) : Prop :=
  ∃ o es ep t, h.get? a = some o ∧ o.ExactSet ∧ o.data = .set es ep t ∧ (∀ e ∈ es.toList, GoodS w e) ∧ (es.toList.map keyS).Nodup ∧ (es.toList.map keyS).Perm L ∧
    es.size < scanBound ∧ t.fits es.size = true ∧ Ris t.place.toList ∧ (w.params.followText "set-order" = true ∨ t.led = true)
section
variable {P : Program} {w : World} {h h' : Heap} {a : Addr} {L : List Str}
theorem SetS.at (R : SetS w h a L) (k : ∀ o, h.get? a = some o → h'.get? a = some o) : SetS w h' a L := by
  obtain ⟨o, es, ep, t, ho, r⟩ := R
  exact ⟨o, es, ep, t, k o ho, r⟩
theorem goodS_elems {l : List (Int × Value)} (g : ∀ e ∈ l, GoodS w e) : ElemsOf (PySem.strKind P w) l := fun e he => by
  obtain ⟨k, tk, h1, h2⟩ := g e he
  exact ⟨⟨k, by rw [h1]; exact strKind_is P w k tk, h2⟩, by rw [h1] <;> rfl⟩
theorem goodS_is {e : Int × Value} (g : GoodS w e) (k : Str) : (PySem.strKind P w).is k e.2 = true ↔ keyS e = k := by
  obtain ⟨k0, tk, h1, _⟩ := g
  unfold keyS
  rw [h1]
  show ((k0 == k) = true) ↔ k0 = k
  exact beq_iff_eq
theorem goodS_mem {l : List (Int × Value)} (g : ∀ e ∈ l, GoodS w e) (k : Str) : k ∈ l.map keyS ↔ ∃ e ∈ l, (PySem.strKind P w).is k e.2 = true := by
  rw [List.mem_map]
  constructor
  · rintro ⟨e, he, q⟩
    exact ⟨e, he, (goodS_is (g e he) k).2 q⟩
  · rintro ⟨e, he, q⟩
    exact ⟨e, he, (goodS_is (g e he) k).1 q⟩
end
section
variable {P : Program} {w : World} {A : Around} {E : Value → Shared → Prop} {s : Shared} {a : Addr} {L : List Str}
theorem setS_tail {g : Bool → Sem Unit} (hg : ∀ (b : Bool) (s₁ : Shared) (Q' : Unit → Shared → Prop), Q' () s₁ → wpAny (model P w) A (g b) Q' E s₁)
    {o : Obj} {es : Array (Int × Value)} {ep : Nat} {t : SetTable} (ho : s.heap.get? a = some o) (hex : o.ExactSet) (hd : o.data = .set es ep t)
    {es1 : Array (Int × Value)} {t2 : SetTable} {L' : List Str} (g1 : ∀ e ∈ es1.toList, GoodS w e) (nd1 : (es1.toList.map keyS).Nodup) (m1 : (es1.toList.map keyS).Perm L')
    (hb1 : es1.size < scanBound) (hf2 : t2.fits es1.size = true) (hr : Ris t2.place.toList) (hl : w.params.followText "set-order" = true ∨ t2.led = true) {wasDummy : Bool} {R : Option Bool → Shared → Prop}
    (hR : ∀ h', Heap.SameBut a s.heap h' → SetS w h' a L' → R (some true) { s with heap := h' }) :
    wpAny (model P w) A (do
        storeSet a es1 t2
        if (!wasDummy && t2.tooFull) = true then do
            g (relayAll t2 es1 (SetTable.grown es1.size)).2.2
            storeSet a (relayAll t2 es1 (SetTable.grown es1.size)).1 (relayAll t2 es1 (SetTable.grown es1.size)).2.1
            pure (some true)
          else pure (some true)) R E s := by
  refine wpAny_bind (wpAny_storeSet_of ho hd ?_ (fits_of_scanBound hb1))
  have ho1 := store_at (es' := es1) (t' := t2) ho hd
  have sb1 := Heap.SameBut.update s.heap a (Obj.putSet es1 t2)
  split
  · have pm := relayAll_perm t2 es1 (SetTable.grown es1.size)
    have hf3 := relayAll_fits t2 es1 (SetTable.grown es1.size)
    have hr3 := relayAll_ris t2 es1 (SetTable.grown es1.size)
    have hl3 := relayAll_led t2 es1 (SetTable.grown es1.size)
    generalize relayAll t2 es1 (SetTable.grown es1.size) = Z at pm hf3 hr3 hl3 ⊢
    obtain ⟨es2, t3, gave⟩ := Z
    dsimp only at pm hf3 hr3 hl3 ⊢
    have hsz : es2.size = es1.size := by rw [← Array.length_toList, pm.length_eq, Array.length_toList]
    have hb2 : es2.size < scanBound := by rw [hsz]; exact hb1
    refine wpAny_bind (hg _ _ _ ?_)
    refine wpAny_bind (wpAny_storeSet_of ho1 rfl ?_ (fits_of_scanBound hb2))
    have ho2 := store_at (es' := es2) (t' := t3) ho1 rfl
    refine wpAny_pure (hR _ (sb1.trans (Heap.SameBut.update _ a _)) ?_)
    exact ⟨_, es2, _, t3, ho2, hex, rfl, fun e he => g1 e (pm.mem_iff.mp he), (pm.map keyS).nodup_iff.mpr nd1, (pm.map keyS).trans m1, hb2, hf3, hr3,
      hl.imp id fun z => by rw [hl3]; exact z⟩
  · exact wpAny_pure (hR _ sb1 ⟨_, es1, _, t2, ho1, hex, rfl, g1, nd1, m1, hb1, hf2, hr, hl⟩)
def addS (x : Str) (L : List Str) : List Str := if x ∈ L then L else x :: L
theorem setS_add {k : Str} {tk : Tok} {Q : Bool → Shared → Prop} (R : SetS w s.heap a L) (room : L.length + 1 < scanBound)
    (hQ : ∀ b h', Heap.SameBut a s.heap h' → SetS w h' a (addS k L) → Q b { s with heap := h' }) :
    wpAny (model P w) A (setAddHashed a (.str k tk) ((PySem.strKind P w).hash k)) Q E s := by
  obtain ⟨o, es, ep, t, ho, hex, hd, g, nd, hm, hb, hf, hr, hl⟩ := R
  have hkey : (PySem.strKind P w).is k (.str k tk) = true := strKind_is P w k tk
  have hsc : (Value.str k tk).scannable = true := rfl
  have hel : ElemsOf (PySem.strKind P w) es.toList := goodS_elems g
  have hn : es.size = L.length := by rw [← Array.length_toList, ← List.length_map (f := keyS), hm.length_eq]
  unfold setAddHashed setAddHashedIn
  refine wpAny_holding (wpAny_bind (wpAny_setState_of ho hd hf ?_))
  dsimp only
  rw [byScan_of hsc hb hel]
  simp only [↓reduceIte]
  unfold setAddByScan
  refine wpAny_bind ?_
  refine wpAny_bind (wpAny_rule ?_)
  refine wpAny_bind (wpAny_setScan_of hkey ho hd hf hel ?_)
  cases hfi : List.findIdx? (fun e => (PySem.strKind P w).is k e.2) es.toList with
  | some j =>
    dsimp only
    obtain ⟨hj, pj, _⟩ := List.findIdx?_eq_some_iff_getElem.mp hfi
    have hSk : k ∈ L := hm.mem_iff.mp ((goodS_mem (P := P) (w := w) g k).2 ⟨es.toList[j], List.getElem_mem hj, pj⟩)
    refine wpAny_pure (wpAny_pure ?_)
    exact hQ false s.heap (Heap.SameBut.refl a s.heap) ⟨o, es, ep, t, ho, hex, hd, g, nd, by unfold addS; rw [if_pos hSk]; exact hm, hb, hf, hr, hl⟩
  | none =>
    dsimp only
    have hnk : k ∉ es.toList.map keyS := fun z => by
      obtain ⟨e, he, q⟩ := (goodS_mem (P := P) (w := w) g k).1 z
      have c := List.findIdx?_eq_none_iff.mp hfi e he
      rw [q] at c
      cases c
    have hSk : k ∉ L := fun z => hnk (hm.mem_iff.mpr z)
    have hgw : ∀ (b : Bool) {s₁ : Shared} {Q' : Unit → Shared → Prop}, Q' () s₁ → wpAny (model P w) A (match b with | true => rule "set.scan.the-table-gave-way" | false => pure ()) Q' E s₁ :=
      fun b s₁ Q' q => by cases b <;> first | exact wpAny_pure q | exact wpAny_rule q
    have pm := layNew_perm t es ((PySem.strKind P w).hash k) (.str k tk)
    have hf1 := layNew_fits t es ((PySem.strKind P w).hash k) (.str k tk)
    have hr1 := layNew_ris t es ((PySem.strKind P w).hash k) (.str k tk) hr
    have hl1 := layNew_led t es ((PySem.strKind P w).hash k) (.str k tk)
    generalize layNew t es ((PySem.strKind P w).hash k) (.str k tk) = Z at pm hf1 hr1 hl1 ⊢
    obtain ⟨es1, t1, wasDummy, gave⟩ := Z
    dsimp only at pm hf1 hr1 hl1 ⊢
    rw [Array.toList_push] at pm
    have pc : es1.toList.Perm (((PySem.strKind P w).hash k, Value.str k tk) :: es.toList) := pm.trans (List.perm_append_singleton _ _)
    have pk : (es1.toList.map keyS).Perm (k :: es.toList.map keyS) := pc.map keyS
    have g1 : ∀ e ∈ es1.toList, GoodS w e := fun e he => by
      rcases List.mem_cons.mp (pc.mem_iff.mp he) with z | z
      · rw [z]; exact ⟨k, tk, rfl, rfl⟩
      · exact g e z
    have nd1 : (es1.toList.map keyS).Nodup := pk.nodup_iff.mpr (List.nodup_cons.mpr ⟨hnk, nd⟩)
    have m1 : (es1.toList.map keyS).Perm (addS k L) := by
      unfold addS
      rw [if_neg hSk]
      exact pk.trans (hm.cons k)
    have hsz : es1.size = L.length + 1 := by rw [← Array.length_toList, pc.length_eq, List.length_cons, Array.length_toList, hn]
    have hb1 : es1.size < scanBound := by rw [hsz]; exact room
    have hled : w.params.followText "set-order" = true ∨ t1.led = true := hl.imp id fun z => by rw [hl1]; exact z
    have fin : ∀ h', Heap.SameBut a s.heap h' → SetS w h' a (addS k L) → Q true { s with heap := h' } := fun h' sb r => hQ true h' sb r
    refine wpAny_bind (hgw _ ?_)
    split
    · refine wpAny_bind ?_
      rw [hashByValue_scannable 8 hsc]
      refine wpAny_pure ?_
      refine setS_tail ?_ ho hex hd g1 nd1 m1 hb1 ?_ ?_ ?_ ?_
      · intro b s₁ Q' q; cases b <;> first | exact wpAny_pure q | exact wpAny_rule q
      · first | (split <;> first | exact hf1 | exact SetTable.fits_plain_off hf1) | exact hf1
      · first | (split <;> exact hr1) | exact hr1
      · first | (split <;> exact hled) | exact hled
      · intro h' sb r; dsimp only; exact wpAny_pure (fin h' sb r)
    · refine wpAny_bind (wpAny_pure ?_)
      simp only [↓reduceIte]
      refine setS_tail ?_ ho hex hd g1 nd1 m1 hb1 hf1 hr1 hled ?_
      · intro b s₁ Q' q; cases b <;> first | exact wpAny_pure q | exact wpAny_rule q
      · intro h' sb r; dsimp only; exact wpAny_pure (fin h' sb r)
def broughtS (ks : List Str) (i : Nat) : List Str := (ks.take i).foldl (fun L x => addS x L) []
theorem addS_len (x : Str) (L : List Str) : (addS x L).length ≤ L.length + 1 := by
  unfold addS; split
  · omega
  · simp
theorem broughtS_len (ks : List Str) : ∀ i, (broughtS ks i).length ≤ i
  | 0 => by simp [broughtS]
  | i + 1 => by
    unfold broughtS
    rw [List.take_add_one, List.foldl_append]
    cases h : ks[i]? with
    | none => exact Nat.le_succ_of_le (broughtS_len ks i)
    | some x =>
      have := addS_len x (broughtS ks i)
      have h2 := broughtS_len ks i
      show (addS x (broughtS ks i)).length ≤ i + 1
      omega
theorem broughtS_succ {ks : List Str} {i : Nat} {x : Str} (h : ks[i]? = some x) : broughtS ks (i + 1) = addS x (broughtS ks i) := by
  unfold broughtS
  rw [List.take_add_one, List.foldl_append, h]
  rfl
theorem bringsS {I : Addr} {fp wr : List Addr} {G : Array GenState → Array GenState → Prop} {n : Nat} {Pv : Nat → Value → Prop} {St : Nat → Shared → Prop} {R : Result → Shared → Prop} (W : WalksS P w A.in1 I fp wr G n Pv St) {S : Addr} (hS : S ∉ fp)
    {ks : List Str} (hn : n = ks.length) (few : ks.length + 1 < scanBound) (val : ∀ i v, Pv i v → ∃ x t, ks[i]? = some x ∧ v = Value.str x t) {s : Shared} {h0 : Heap} (S0 : h0.get? S = none) (w0 : ∀ b ∈ wr, h0.get? b = none)
    (fin : ∀ s', (∀ b o, h0.get? b = some o → s'.heap.get? b = some o) → SetS w s'.heap S (broughtS ks n) → ∀ s0, Moved (S :: wr) G s0 s' → s0 = s → R (.ok (.ret .none)) s') :
    ∀ (k i : Nat) (s1 : Shared), n - i = k → i ≤ n → St i s1 → (∀ b o, h0.get? b = some o → s1.heap.get? b = some o) → SetS w s1.heap S (broughtS ks i) → Moved (S :: wr) G s s1 →
      codeAny (model P w) A (.builtin "set.update.loop" ⟨[.ref S, .ref I], []⟩) R s1 := by
  have Sw : S ∉ wr := fun h => hS (W.sub _ h)
  have kept : ∀ {s1 s2 : Shared}, Moved wr G s1 s2 → (∀ b o, h0.get? b = some o → s1.heap.get? b = some o) → ∀ b o, h0.get? b = some o → s2.heap.get? b = some o := fun hm hk b o e => hm.heap b o (fun hb => by rw [w0 b hb] at e; cases e) (hk b o e)
  have wide : ∀ {s1 s2 : Shared}, Moved wr G s1 s2 → Moved (S :: wr) G s1 s2 := fun hm => hm.mono fun b hb => List.mem_cons_of_mem _ hb
  intro k
  induction k with
  | zero =>
    intro i s1 hk hi st h1 R1 mv
    obtain rfl : i = n := by omega
    refine codeAny_builtin F.entry_set_update_loop ?_
    rw [Around.under_plainId F.plain_set_update_loop _]
    refine wpAny_bind (m := pyNext (.ref I)) (W.done s1 _ _ st fun s2 hm => ?_)
    exact wpAny_pure (fin s2 (kept hm h1) (R1.at (fun o e => hm.heap S o Sw e)) _ (Moved.trans W.gtrans mv (wide hm)) rfl)
  | succ k ih =>
    intro i s1 hk hi st h1 R1 mv
    refine codeAny_builtin F.entry_set_update_loop ?_
    rw [Around.under_plainId F.plain_set_update_loop _]
    refine wpAny_bind (m := pyNext (.ref I)) (W.item i s1 _ _ (by omega) st fun v s2 hP st2 hm => ?_)
    obtain ⟨x, tk, hx, rfl⟩ := val i v hP
    have h2 := kept hm h1
    refine wpAny_bind (m := holding [Value.str x tk] (setAdd S (.str x tk))) (wpAny_holding ?_)
    unfold setAdd
    refine wpAny_holding (wpAny_bind ((PySem.strKind P w).pyHash (strKind_is P w x tk) ?_))
    refine setS_add (s := { s2 with toks := s2.toks + 1 }) (R1.at (fun o e => hm.heap S o Sw e)) (by have := broughtS_len ks i; omega) fun b h3 sb R3 => ?_
    have h3k : ∀ b o, h0.get? b = some o → h3.get? b = some o := fun b o e => (sb.2 b (fun z => by rw [z, S0] at e; cases e)).trans (h2 b o e)
    refine wpAny_pure ⟨plainId_quiet F.plain_set_update_loop _, ih (i + 1) _ (by omega) (by omega) (W.frame _ s2 _ _ st2 (Nat.le_succ _) fun b hb o e => ?_) h3k (by rw [broughtS_succ hx]; exact R3) ?_⟩
    · rw [sb.2 b (fun e => hS (e ▸ hb))]; exact e
    · refine Moved.trans W.gtrans mv ((wide hm).then_heap (Nat.le_succ _) fun b o hb e => ?_)
      rw [sb.2 b (fun e => hb (by rw [e]; exact List.mem_cons_self))]; exact e
theorem setS_fresh {h : Heap} {a : Addr} (ho : h.get? a = some (set0 w)) : SetS w h a [] :=
  ⟨_, #[], 0, _, ho, ⟨rfl, rfl, rfl⟩, rfl, (fun e he => by simp at he), (by simp), (by simp), (by decide), (by rfl), List.Pairwise.nil, by
    show _ ∨ (!w.params.followText "set-order") = true
    cases w.params.followText "set-order"
    · exact .inr rfl
    · exact .inl rfl⟩
theorem call_setS {l : Addr} {items : Array Value} (ks : List Str) {Q : Value → Shared → Prop} (hh : A.handled = none) (hl : s.heap.IsList l items) (hit : ∀ (i : Nat) (v : Value), items[i]? = some v → ∃ x t, ks[i]? = some x ∧ v = Value.str x t) (size : items.size = ks.length)
    (few : ks.length + 1 < scanBound)
    (h : ∀ (h' : Heap) (tk : Nat), SetS w h' s.heap.objs.size (broughtS ks ks.length) → (∀ b o, s.heap.get? b = some o → h'.get? b = some o) → Q (.ref s.heap.objs.size) { s with heap := h', toks := tk }) :
    wpAny (model P w) A (call (.type "set") [.ref l]) Q E s := by
  refine call_set_by hl (post := fun h' tk => SetS w h' s.heap.objs.size (broughtS ks ks.length) ∧ ∀ b o, s.heap.get? b = some o → h'.get? b = some o) (fun R hR => ?_) fun h' tk ⟨g, k⟩ => h h' tk g k
  have low : l < s.heap.objs.size := by obtain ⟨_, q, _⟩ := hl; exact Heap.lt_size q
  have far : (s.heap.push (set0 w)).objs.size = s.heap.objs.size + 1 := Heap.size_push ..
  have free : ∀ b, s.heap.objs.size ≤ b → s.heap.get? b = none := fun b hb => by
    cases q : s.heap.get? b with
    | none => rfl
    | some o => exact absurd (Nat.lt_of_lt_of_le (Heap.lt_size q) hb) (Nat.lt_irrefl _)
  have hne : l ≠ (s.heap.push (set0 w)).objs.size := by rw [far]; exact Nat.ne_of_lt (Nat.lt_succ_of_lt low)
  have hh3 : A.in1.in1.in1.handled = none := by simp [hh]
  refine bringsS (A := A.in1.in1) ((Walks.list hh3 _ l hne items).toS) (S := s.heap.objs.size) (by rw [far]; simp only [List.mem_cons, List.not_mem_nil, or_false, not_or]; exact ⟨Nat.ne_of_lt (Nat.lt_succ_self _), Nat.ne_of_gt low⟩) size few hit (h0 := s.heap) (free _ (Nat.le_refl _))
    (fun b hb => free b (by rw [List.mem_singleton.mp hb, far]; exact Nat.le_succ _)) ?_ (items.size - 0) 0 _ rfl (Nat.zero_le _) ⟨⟨_, Heap.get?_push_size _ rfl, rfl, rfl⟩, (hl.push _).push _⟩
    (fun b o e => Heap.get?_push_of_some _ (Heap.get?_push_of_some _ e)) (setS_fresh (Heap.get?_push_of_some _ (Heap.get?_push_size _ rfl))) (Moved.refl fun _ => rfl)
  · rintro ⟨h', g', d', tk', os'⟩ keep g s0 mv rfl
    have eg : g' = s.gens := mv.gens
    have ed : d' = s.drawn := mv.drawn
    have eo : os' = s.os := mv.os
    subst eg; subst ed; subst eo
    exact hR h' tk' ⟨by rw [← size]; exact g, keep⟩
end
end
end AP

namespace AP
noncomputable section
open PySem PySem.Spec PyProof.Rows L2 RZ
open PySem.W (EachIs)
def SetSO (w : World) (a : Addr) (L : List Str) : HO := .ext fun h => SetS w h a L
theorem setS_lies {P : Program} {w : World} {H : Hp} {h : Heap} {a : Addr} {L : List Str} (R : SetS w h a L) : ObjOk P w H h a (SetSO w a L) := by
  obtain ⟨o, es, ep, t, ho, r⟩ := id R
  exact ⟨R, ⟨o, ho⟩, fun h1 h2 x k => x.at fun o e => k o e⟩
section
variable [Tbls] [Gd] {X : Cx}
def rSetS (K : PySem.W.Frag) (w : World) : List V → Hp → VK → Prop := fun xs H Q => ∃ (l : Addr) (ks : List Str), xs = [V.ref l] ∧ SqL K H l (ks.map V.str) ∧ ks.length < 1000 ∧
  ∀ a, H a = none → Q (.ref a) (upd H a (SetSO w a (broughtS ks ks.length)))
theorem str_at : ∀ {ks : List Str} {us : List Value}, Vals (ks.map V.str) us → ∀ (i : Nat) (v : Value), us[i]? = some v → ∃ x t, ks[i]? = some x ∧ v = Value.str x t
  | [], _, .nil, i, v, h => by simp at h
  | x :: k, _, .cons r t, 0, v, h => by
    obtain ⟨u, rfl⟩ := r
    simp at h
    exact ⟨x, u, rfl, h.symm⟩
  | x :: k, _, .cons r t, i + 1, v, h => by
    simp only [List.getElem?_cons_succ] at h ⊢
    exact str_at t i v h
theorem cr_setS (hc : X.calm = true) : CallR X (.type "set") (rSetS X.K X.w) := by
  intro pins s σ H xs us Q I r h
  obtain ⟨l, ks, rfl, hl, hk, q⟩ := h
  rw [Vals.ref1 r]
  obtain ⟨its, rv, pl, hz⟩ := I.list hl
  have hlen : its.length = ks.length := by have := rv.length; simpa using this.symm
  refine call_setS (P := X.prog) (w := X.w) ks (I.ok.hd hc) pl.isList (fun i v hv => str_at rv i v (by rw [← Array.getElem?_toList] at hv; simpa using hv)) (by simpa using hlen) (by unfold scanBound; omega) fun h' tk R k => ?_
  exact ⟨.ref s.heap.objs.size, upd H s.heap.objs.size (SetSO X.w s.heap.objs.size (broughtS ks ks.length)), I.laid (t' := tk) k (Nat.le_refl _) (setS_lies R), rfl, q _ (I.hok.fresh (Nat.le_refl _))⟩
theorem each_of_map {α β : Type} {R : Value → β → Prop} {f : α → Value} {g : α → β} : ∀ l : List α, (∀ x ∈ l, R (f x) (g x)) → EachIs R (l.map f) (l.map g)
  | [], _ => .nil
  | x :: l, h => .cons (h x List.mem_cons_self) (each_of_map l fun y hy => h y (List.mem_cons_of_mem _ hy))
theorem pw_one {l : List Str} {l' : List Str} (pm : l.Perm l') (h : l.Pairwise LeS) : l = sortS l' :=
  List.Perm.eq_of_pairwise (fun a b _ _ p q => leS_anti p q) h (sortS_pw l') (pm.trans (sortS_perm l').symm)
theorem vals_strs : ∀ {es : List (Int × Value)} {w : World}, (∀ e ∈ es, GoodS w e) → Vals ((es.map keyS).map V.str) (es.map (·.2))
  | [], _, _ => .nil
  | e :: es, w, h => by
    obtain ⟨x, tk, h1, _⟩ := h e List.mem_cons_self
    refine .cons ?_ (vals_strs fun y hy => h y (List.mem_cons_of_mem _ hy))
    refine ⟨tk, ?_⟩
    simp only [keyS, h1]
theorem sorted_setS {P : Program} {w : World} {A : Around} {E : Value → Shared → Prop} {s : Shared} {a : Addr} {L : List Str} (R : SetS w s.heap a L) (hh : A.handled = none) (few : L.length < 64) (hu : A.units + 64 < cLine) {Q : Value → Shared → Prop}
    (hQ : ∀ s' p (c : Nat) (us : List Value), (∀ b o, s.heap.get? b = some o → s'.heap.get? b = some o) → s'.gens = s.gens → s'.os = s.os → s.heap.objs.size ≤ p → s'.heap.get? p = some (seqObj "list" us.toArray c) →
      Vals ((sortS L).map V.str) us → Q (.ref p) s') : wpAny (model P w) A (call (.builtin "sorted") [.ref a]) Q E s := by
  obtain ⟨o, es, ep, t, ho, hex, hd, g, nd, hm, hb, hf, hr, hl⟩ := R
  have hn : es.size = L.length := by rw [← Array.length_toList, ← List.length_map (f := keyS), hm.length_eq]
  refine Calls.call_function_entry kind_sorted plain_sorted entry_sorted (args_sorted1 _) ?_
  unfold Builtin.«sorted»
  refine wpAny_bind (m := checkCount "sorted" 1 1 _) (wpAny_pure (wpAny_bind (collect_set (A := A.in1) hh ⟨o, ho, hex.1, hd⟩ hf hb hr hl fun s1 vs k1 hz g1 o1 pm => ?_)))
  obtain ⟨L1, p1, rfl⟩ := perm_map_inv pm es.toList rfl
  have len1 : L1.length < 64 := by rw [p1.length_eq, Array.length_toList, hn]; exact few
  refine wpAny_bind (wpAny_newList ?_ (by rw [List.length_map, sizeLine_eq]; omega))
  have g1' : ∀ e ∈ L1, GoodS w e := fun e he => g e (p1.mem_iff.mp he)
  have at_ : (s1.heap.push (seqObj "list" (L1.map fun q => q.2).toArray 0)).get? s1.heap.objs.size = some (seqObj "list" (L1.map fun q => q.2).toArray 0) := Heap.get?_push_size _ rfl
  have es1 : EachIs (fun v q => v = q.2) (L1.map fun q => q.2) L1 := each_self (fun q : Int × Value => q.2) L1
  have er : EachIs (fun v q => ∃ as, Reads (s1.heap.push (seqObj "list" (L1.map fun q => q.2).toArray 0)) v (PyData.str (keyS q)) as ∧ s1.heap.objs.size ∉ as) (L1.map fun q => q.2) L1 := by
    have := each_of_map (R := fun v (q : Int × Value) => ∃ as, Reads (s1.heap.push (seqObj "list" (L1.map fun q => q.2).toArray 0)) v (PyData.str (keyS q)) as ∧ s1.heap.objs.size ∉ as) (f := fun q : Int × Value => q.2) (g := id) L1 fun q hq => by
      obtain ⟨x, tk, h1, _⟩ := g1' q hq
      refine ⟨[], ?_, by simp⟩
      show Reads _ q.2 (PyData.str (keyS q)) []
      rw [show keyS q = x by simp only [keyS, h1], h1]
      exact .str x tk
    rwa [List.map_id] at this
  refine wpAny_bind (wpAny_holding (PySem.W.list_sort_data (s := { s1 with heap := s1.heap.push (seqObj "list" (L1.map fun q => q.2).toArray 0) }) (enc := fun q : Int × Value => PyData.str (keyS q)) (bs := L1) at_ es1 er (fun d hd e he => ?_) (.inr fun d hd => ?_) (by rw [sizeLine_eq]; omega) (fun q hq => ?_) fun out _ eo => ?_))
  · obtain ⟨p, _, rfl⟩ := List.mem_map.mp hd
    obtain ⟨p', _, rfl⟩ := List.mem_map.mp he
    simp [PySem.W.alike]
  · obtain ⟨p, _, rfl⟩ := List.mem_map.mp hd
    exact ⟨nofun, nofun⟩
  · have : (PyData.str (keyS q)).depth = 0 := by simp [PyData.depth]
    show A.units + 1 + 1 + _ < _
    omega
  · have e2 : out = ((L1.mergeSort (PySem.W.dataLe false fun q : Int × Value => PyData.str (keyS q))).map fun q => q.2) := each_out eo
    obtain ⟨c, hc⟩ := sortedHeap_at (vs := L1.map fun q => q.2) (out := out.toArray) at_
    subst e2
    have pmS := List.mergeSort_perm L1 (PySem.W.dataLe false fun q : Int × Value => PyData.str (keyS q))
    refine wpAny_pure ⟨_, rfl, hQ _ s1.heap.objs.size c _ (fun b u e => ?_) g1 o1 hz hc ?_⟩
    · have q := k1 b u e
      have lt := Heap.lt_size q
      show (sortedHeap _ _ _ _).get? b = some u
      rw [sortedHeap_old (Nat.ne_of_lt lt) (by rw [size_push']; exact Nat.lt_succ_of_lt lt)]
      exact Heap.get?_push_of_some _ q
    · have pw := dataLe_pw (fun q : Int × Value => PyData.str (keyS q)) L1
      have e3 : (L1.mergeSort (PySem.W.dataLe false fun q : Int × Value => PyData.str (keyS q))).map keyS = sortS L := by
        refine pw_one (((pmS.trans p1).map keyS).trans hm) (List.pairwise_map.mpr (pw.imp fun {a b} h => ?_))
        unfold LeS
        have h2 : PySem.W.dataLt (PyData.str (keyS b)) (PyData.str (keyS a)) = false := h
        unfold PySem.W.dataLt PySem.W.keyToks at h2
        rw [PySem.W.lex_one] at h2
        rw [ltCps_eq]
        exact h2
      rw [← e3]
      exact vals_strs fun e he => g1' e (pmS.mem_iff.mp he)
def rSortS (w : World) : List V → Hp → VK → Prop := fun vs H Q => ∃ (a : Addr) (L : List Str), vs = [V.ref a] ∧ H a = some (SetSO w a L) ∧ L.length < 64 ∧ ∀ p, H p = none → Q (.ref p) (upd H p (.lst ((sortS L).map V.str)))
theorem sortS_length (L : List Str) : (sortS L).length = L.length := (sortS_perm L).length_eq
theorem cr_sortS (hc : X.calm = true) (hu : X.A.units + 64 < cLine) : CallR X (.builtin "sorted") (rSortS X.w) := by
  intro pins s σ H vs us Q I r h
  obtain ⟨a, L, rfl, ha, few, q⟩ := h
  have R : SetS X.w s.heap a L := (I.hok a _ ha).1
  rw [Vals.ref1 r]
  refine sorted_setS (P := X.prog) R (I.ok.hd hc) few hu fun s' p c us' k g o hp hg rv => ?_
  have len : ((sortS L).map V.str).length ≤ sizeLine := by
    rw [List.length_map, sortS_length, sizeLine_eq]
    omega
  have J : Inv X pins σ (upd H p (.lst ((sortS L).map V.str))) { s with heap := s'.heap, gens := s'.gens, drawn := s'.drawn, toks := s'.toks } :=
    I.call (ch := []) (Un.laid k hp (I.hok.fresh hp)) (I.hok.laid k hp ⟨len, _, c, rv, hg⟩) (by rw [g]; exact I.bare) (fun _ z => nomatch z)
  have e : s' = { s with heap := s'.heap, gens := s'.gens, drawn := s'.drawn, toks := s'.toks } := by
    cases s'
    cases s
    cases o
    rfl
  rw [e]
  exact ⟨.ref p, _, J, rfl, q p (I.hok.fresh hp)⟩
def tSSt (K : PySem.W.Frag) (ta : TA) : TE := fun σ H Q => ∀ w : World, tCB (rSortS w) (tCons (tCB (rSetS K w) ta) tNil) σ H Q
theorem pe_tSSt {e : Expr} {ta : TA} (h : PE X e (tCB (rSortS X.w) (tCons (tCB (rSetS X.K X.w) ta) tNil))) : PE X e (tSSt X.K ta) := ⟨fun pins s σ H Q I q => h.run pins s σ H Q I (q X.w)⟩
def tSSx (K : PySem.W.Frag) (ta : TA) : TE := fun σ H Q => tSS K ta σ H Q ∨ tSSt K ta σ H Q
theorem pe_tSSx {e : Expr} {ta : TA} (a : PE X e (tSS X.K ta)) (b : PE X e (tSSt X.K ta)) : PE X e (tSSx X.K ta) :=
  ⟨fun pins s σ H Q I q => q.elim (a.run pins s σ H Q I) (b.run pins s σ H Q I)⟩
end
section
variable [Tbls] [Gd]
def dedS (ks : List Str) : List Str := broughtS ks ks.length
def gSSt : List D → Option D
  | [.list ds] => (match strsOf ds with
    | some ks => if Nat.ble ks.length 60 then some (.list ((sortS (dedS ks)).map .str)) else none
    | none => none)
  | _ => none
theorem strs_rp {Z : Zs} {H : Hp} : ∀ ks : List Str, RpA Z H (ks.map V.str) (ks.map PyData.str)
  | [] => .nil
  | k :: ks => .cons (.str k) (strs_rp ks)
theorem strs_dat {Z : Zs} {H : Hp} : ∀ {xs : List V} {ds : List D} {ks : List Str}, RpA Z H xs ds → strsOf ds = some ks → xs = ks.map V.str
  | _, _, _, .nil, e => by simp only [strsOf] at e; cases e; rfl
  | _, _, _, .cons (d := d) (ds := ds) h r, e => by
    cases d with
    | str x =>
      simp only [strsOf] at e
      cases e2 : strsOf ds with
      | none => rw [e2] at e; cases e
      | some ys =>
        rw [e2] at e; cases e
        cases h
        rw [strs_dat r e2]
        rfl
    | _ => simp [strsOf] at e
theorem rc_SSt {K : PySem.W.Frag} {w : World} : RCD (fun xs H Q => rSetS K w xs H fun v H1 => rSortS w [v] H1 Q) gSSt := by
  intro Z H hz vs ds d r e Q q
  unfold gSSt at e
  split at e
  · rename_i ds
    split at e
    · rename_i ks hk
      split at e
      · rename_i hl
        cases e
        have hl2 := Nat.le_of_ble_eq_true hl
        cases r with
        | cons h t =>
          cases t
          obtain ⟨l, xs, rfl, hx, ra⟩ := h
          refine ⟨l, ks, rfl, ?_, by omega, fun a ha => ?_⟩
          · rw [strs_dat ra hk] at hx
            exact SqL.of hx
          · have n1 : New H (upd H a (SetSO w a (dedS ks))) := New.upd ha
            refine ⟨a, dedS ks, rfl, upd_same, ?_, fun p hp => ?_⟩
            · have := broughtS_len ks ks.length
              unfold dedS
              omega
            · have pa : p ≠ a := fun e => by rw [e, upd_same] at hp; cases hp
              have hp0 : H p = none := by rw [upd_ne pa] at hp; exact hp
              have n2 : New (upd H a (SetSO w a (dedS ks))) (upd (upd H a (SetSO w a (dedS ks))) p (.lst ((sortS (dedS ks)).map V.str))) := New.upd hp
              exact q _ _ (n1.trans n2) (.lst (fresh_nz hz hp0) upd_same (strs_rp _))
      · cases e
    · cases e
  · cases e
theorem sn_sortSt {K : PySem.W.Frag} {w : World} {ta : TA} {a : AM} (ha : SnA ta a) : Sn (tCB (rSortS w) (tCons (tCB (rSetS K w) ta) tNil)) (mCB gSSt a) := show Sn (tCB (fun xs H Q => rSetS K w xs H fun v H1 => rSortS w [v] H1 Q) ta) (mCB gSSt a) from sn_cb rc_SSt ha
def gSSx (ds : List D) : Option D := oel (gSS ds) (gSSt ds)
theorem mCB_oel {g g' : List D → Option D} {a : AM} {s : S} {r : SV × List MO} (h : mCB (fun ds => oel (g ds) (g' ds)) a s = some r) : mCB g a s = some r ∨ mCB g' a s = some r := by
  unfold mCB at h ⊢
  split at h
  · cases h
  · rename_i xs o1 ea
    split at h
    · cases h
    · rename_i ds hd
      try rw [hd]
      try dsimp only
      cases eg : g ds with
      | some d => simp only [oel, eg] at h; exact .inl h
      | none => simp only [oel, eg] at h; exact .inr h
theorem sn_tSSx {K : PySem.W.Frag} {ta : TA} {a : AM} (ha : SnA ta a) : Sn (tSSx K ta) (mCB gSSx a) := by
  intro Z M s σ H h r o' e Q q
  rcases mCB_oel e with e | e
  · exact .inl (sn_tSS ha Z M s σ H h r o' e Q q)
  · exact .inr fun w => sn_sortSt ha Z M s σ H h r o' e Q q
end
end
end AP

namespace AP
noncomputable section
open PySem PySem.Spec PyProof.Rows L2 RZ
variable [Tbls] [Gd]
def tFeedK (k2 k3 k4 : Str) (K : PySem.W.Frag) : TS := tRet (tDisp [(tC (.str (Str.ofString "cells")), tLc (iList K (tSl (rSlL K) (tVar 0) tNoPart (tPart (tC (.int 63))))) (gName 1) tYes (tCB rIntA (tCons (tVar 1) tNil)) [1]),
  (tC (.str (k2)), tC (.int 0)), (tC (.str (k3)), tC (.int 0)), (tC (.str (k4)), tC (.int 0))])
def feedVK (k2 k3 k4 : Str) (c : Addr) : List (Key × V) := [(kC, .ref c), (.inr k2, .int 0), (.inr k3, .int 0), (.inr k4, .int 0)]
def spFeedK (k2 k3 k4 : Str) (K : PySem.W.Frag) : Sp := fun vs H Q _ => ∃ (a : Addr) (ns : List Int), vs = [.ref a] ∧ SqL K H a (ns.map V.int) ∧ ns.length ≤ 63 ∧
  ∀ p c H', H p = none → H c = none → c ≠ p → New H H' → H' p = some (.dK (feedVK k2 k3 k4 c)) → H' c = some (.lst (ns.map V.int)) → Q (.ref p) H'
theorem merge_feedK {k2 k3 k4 : Str} (nd : [kC, .inr k2, .inr k3, .inr k4].Nodup) (c : Addr) : mergeK [] (feedVK k2 k3 k4 c) = feedVK k2 k3 k4 c := by
  simp only [List.nodup_cons, List.mem_cons, List.not_mem_nil, or_false, not_or, not_false_eq_true, and_true, List.nodup_nil] at nd
  obtain ⟨⟨a1, a2, a4⟩, ⟨a3, a5⟩, a6⟩ := nd
  unfold mergeK feedVK
  simp only [List.foldl_cons, List.foldl_nil]
  have e1 : putK [] kC (V.ref c) = [(kC, V.ref c)] := rfl
  have e2 : putK [(kC, V.ref c)] (.inr k2) (V.int 0) = [(kC, V.ref c), (.inr k2, V.int 0)] := putK_new _ (by rw [valV_neg a1]; rfl)
  have e3 : putK [(kC, V.ref c), (.inr k2, V.int 0)] (.inr k3) (V.int 0) = [(kC, V.ref c), (.inr k2, V.int 0), (.inr k3, V.int 0)] := putK_new _ (by rw [valV_neg a2, valV_neg a3]; rfl)
  have e4 : putK [(kC, V.ref c), (.inr k2, V.int 0), (.inr k3, V.int 0)] (.inr k4) (V.int 0) = [(kC, V.ref c), (.inr k2, V.int 0), (.inr k3, V.int 0), (.inr k4, V.int 0)] := putK_new _ (by rw [valV_neg a4, valV_neg a5, valV_neg a6]; rfl)
  rw [e1, e2, e3, e4]
theorem feed_readsK {k2 k3 k4 x1 x2 : Str} (nd : [kC, .inr k2, .inr k3, .inr k4].Nodup) {K : PySem.W.Frag} {vs : List V} {H : Hp} {Q : VK} {E : XK} (h : spFeedK k2 k3 k4 K vs H Q E) : tFeedK k2 k3 k4 K { nx := fun _ G => Q .non G, rt := Q } (L2.start [x1, x2] vs) H := by
  obtain ⟨a, ns, rfl, hS, hl, q⟩ := h
  intro p hp
  have n1 : Stays H (upd H p (.dK [])) := Stays.upd hp
  have seqN : ∀ {H1 H2 : Hp} {b : Addr} {xs : List V}, Stays H1 H2 → SqL K H1 b xs → SqL K H2 b xs := fun n s => by
    rcases s with (s | ⟨o, s⟩) | s
    · exact .inl (.inl (n _ _ s))
    · exact .inl (.inr ⟨o, n _ _ s⟩)
    · exact .inr s
  have s1 := seqN n1 hS
  -- the cells
  refine ⟨.ref a, rfl, (63 : Int), rfl, a, ns.map V.int, rfl, s1, fun b hb => ?_⟩
  have ecut : cutV (ns.map V.int) none (some 63) = ns.map V.int := by
    unfold cutV
    rw [HT.sIx_none, List.drop_zero, show HT.sIx (ns.map V.int).length (ns.map V.int).length (some (63 : Int)) = min 63 (ns.map V.int).length from HT.sIx_nat _ _ 63]
    rw [Nat.sub_zero, List.take_of_length_le]
    rw [List.length_map]; omega
  rw [ecut]
  have n2 : Stays (upd H p (.dK [])) (upd (upd H p (.dK [])) b (.lst (ns.map V.int))) := Stays.upd hb
  refine ⟨b, rfl, ⟨_, SqL.of upd_same⟩, fun D hD => ?_⟩
  have npD : p ≠ D := fun e => by rw [e] at n2; have := n2 D _ (show upd H D (.dK []) D = _ from upd_same); subst e; rw [this] at hD; cases hD
  have nbD : b ≠ D := fun e => by subst e; rw [upd_same] at hD; cases hD
  have npb : p ≠ b := fun e => by subst e; rw [upd_same] at hb; cases hb
  refine lc_list (xs := ns.map V.int) (fun i H2 => Stays H H2 ∧ H2 p = some (.dK []) ∧ H2 b = some (.lst (ns.map V.int)) ∧ H2 D = some (.lst ((ns.take i).map V.int))) ⟨?_, ?_, ?_, upd_same⟩ (fun i H2 _ z => SqL.of z.2.2.1) (fun i x H2 hx z => ?_) (fun H2 z => ?_)
  · exact (n1.trans n2).trans (Stays.upd hD)
  · rw [upd_ne npD, upd_ne npb, upd_same]
  · rw [upd_ne nbD, upd_same]
  · obtain ⟨z1, z2, z3, z4⟩ := z
    have hi : i < ns.length := by
      have := (List.getElem?_eq_some_iff.mp hx).1
      simpa using this
    have ex : x = .int ns[i] := by
      rw [List.getElem?_map, List.getElem?_eq_getElem hi] at hx
      exact (Option.some.inj hx).symm
    subst ex
    refine ⟨rfl, ?_⟩
    refine ⟨.int ns[i], rfl, .inl ⟨_, rfl, _, z4, ?_, ?_, ?_, ?_, ?_⟩⟩
    · rw [List.length_map, List.length_take]; exact Nat.lt_of_le_of_lt (Nat.min_le_right _ _) (Nat.lt_of_lt_of_le (by omega : ns.length < 100000) (small_line (Nat.le_refl _)))
    · intro c o e
      rw [upd_ne (fun e2 => by
        subst e2
        have h0 : H c = none := by
          cases h : H c with
          | none => rfl
          | some u =>
            have := (n1.trans n2) c u h
            rw [this] at hD; cases hD
        rw [h0] at e; cases e)]
      exact z1 c o e
    · rw [upd_ne npD]; exact z2
    · rw [upd_ne nbD]; exact z3
    · rw [upd_same, ← List.map_singleton, ← List.map_append]
      congr 3
      rw [List.take_add_one, List.getElem?_eq_getElem hi]
      rfl
  · obtain ⟨z1, z2, z3, z4⟩ := z
    rw [List.length_map, List.take_length] at z4
    have h0 : H D = none := by
      cases h : H D with
      | none => rfl
      | some u =>
        have := (n1.trans n2) D u h
        rw [this] at hD; cases hD
    refine ⟨z2, feedVK k2 k3 k4 D, rfl, by show 4 ≤ 15; omega, ?_⟩
    rw [merge_feedK nd]
    refine q p D _ hp h0 npD.symm (New.of ?_) upd_same ?_
    · intro c o e
      rw [upd_ne (fun e2 => by subst e2; rw [hp] at e; cases e)]
      exact z1 c o e
    · rw [upd_ne npD.symm]; exact z4
def feed0K (k2 k3 k4 : Str) (ns : List Int) : MO := .k [(kC, .list (ns.map PyData.int)), (.inr k2, .int 0), (.inr k3, .int 0), (.inr k4, .int 0)]
def tLawK (k2 k3 k4 : Str) (K : PySem.W.Frag) (t : TS) : TS := tSeq (tAsg (tCall (spFeedK k2 k3 k4 K) [] E0 (tCons (tVar 0) tNil)) (gName 1)) t
def lawOkK (k2 k3 k4 : Str) (N : Nat) (m : SM) : Prop := ∀ ns : List Int, ns.length ≤ 63 → ∃ o, m ⟨none :: some (.m 0) :: List.replicate (N - 2) none, [feed0K k2 k3 k4 ns]⟩ = some (.rt (.d (.bool true)) o)
theorem law_readsK {k2 k3 k4 : Str} {K : PySem.W.Frag} {N : List Str} {t : TS} {m : SM} (hN : 2 ≤ N.length) (hm : SnS t m) (ok : lawOkK k2 k3 k4 N.length m) {vs : List V} {H : Hp} {Q : VK} {E : XK} (h : spLaw K vs H Q E) : tLawK k2 k3 k4 K t { nx := fun _ G => Q .non G, rt := Q } (L2.start N vs) H := by
  obtain ⟨a, ns, rfl, hT, hS, hl, q⟩ := h
  obtain ⟨o, ho⟩ := ok ns hl
  refine ⟨.ref a, rfl, ?_⟩
  refine ⟨a, ns, rfl, hS, hl, fun p c H' hp hc ncp nw h1 h2 => ?_⟩
  show t _ _ _
  refine hm (fun _ => False) [p] ⟨none :: some (.m 0) :: List.replicate (N.length - 2) none, [feed0K k2 k3 k4 ns]⟩ _ H' ⟨⟨by simp, fun _ z => z.elim, by simp, rfl, fun k b x e1 e2 => ?_, nw.tab hT⟩, fun i sv e => ?_, ?_⟩ _ ho _ ?_
  · cases k with
    | succ k => simp at e1
    | zero =>
      simp at e1 e2
      subst e1; subst e2
      refine ⟨feedVK k2 k3 k4 c, h1, ?_⟩
      have nz : ¬ zz (fun _ => False) [p] c := fun z => z.elim id fun z => ncp (by simpa using z)
      exact .cons (.lst nz h2 (rpA_ints ns)) (.cons (.int 0) (.cons (.int 0) (.cons (.int 0) .nil)))
  · cases i with
    | zero => simp at e
    | succ i =>
      cases i with
      | zero =>
        simp at e
        subst e
        refine ⟨.ref p, ?_, p, rfl, rfl⟩
        have hl2 : 1 < (L2.start N [V.ref a]).length := by simp [L2.start]; omega
        rw [List.getElem?_set_self hl2]
      | succ i =>
        simp [List.getElem?_replicate] at e
  · simp [L2.start]; omega
  · intro M' v H2 e r rv
    have rv2 : Rp _ H2 v (.bool true) := rv
    cases rv2
    exact q H2
section
variable {P : Program} {w : World} {K : PySem.W.Frag} {mg : Str → Option Value} {base : Heap} {x qual : Str} {params : Arguments} {body : List Stmt} {scope : Scope} {dvs : List V} {kws : List (Str × V)} {f : Addr} {fd : FuncData}
theorem def_feedK {k2 k3 k4 x1 x2 : Str} {ps : List Str} {k : Nat} (nd : [kC, .inr k2, .inr k3, .inr k4].Nodup) (F : FunD K x qual params body scope dvs kws f fd) (sc : FnScope [x1, x2] ps scope) (h1 : ps.length = 1)
    (reading : ∀ (cdv : Value), fd.code = cdv → ∀ (A : Around) (outer : List Env) (s : Shared) (H : Hp) (E : XK), GOk A → Room k (A.deeper (envOfC qual scope s.heap.objs.size f cdv)) → PSs (cxOf CX0 P w K mg base [x1, x2] qual scope f cdv A outer s H E) body (tFeedK k2 k3 k4 K)) :
    FnG P w K mg base CX0 (k + 1) f fd ps (spFeedK k2 k3 k4 K) :=
  fnG_ok F sc (fun vs H Q E h => by obtain ⟨a, ns, rfl, _⟩ := h; exact h1.symm) fun cdv hv A outer s H vs Q E hg hr h => ⟨tFeedK k2 k3 k4 K, reading cdv hv A outer s H E hg hr, feed_readsK nd h⟩
theorem def_lawK {k2 k3 k4 : Str} {N ps : List Str} {k : Nat} {t : TS} {m : SM} (F : FunD K x qual params body scope dvs kws f fd) (sc : FnScope N ps scope) (h1 : ps.length = 1) (hN : 2 ≤ N.length)
    (reading : ∀ (cdv : Value), fd.code = cdv → ∀ (A : Around) (outer : List Env) (s : Shared) (H : Hp) (E : XK), GOk A → Room k (A.deeper (envOfC qual scope s.heap.objs.size f cdv)) → PSs (cxOf CX0 P w K mg base N qual scope f cdv A outer s H E) body (tLawK k2 k3 k4 K t))
    (hm : SnS t m) (ok : lawOkK k2 k3 k4 N.length m) : FnG P w K mg base CX0 (k + 1) f fd ps (spLaw K) :=
  fnG_ok F sc (fun vs H Q E h => by obtain ⟨a, ns, rfl, _⟩ := h; exact h1.symm) fun cdv hv A outer s H vs Q E hg hr h => ⟨tLawK k2 k3 k4 K t, reading cdv hv A outer s H E hg hr, law_readsK hN hm ok h⟩
end
end
end AP

namespace AP
noncomputable section
open PySem PySem.Spec PyProof.Rows L2 RZ
section
variable [Tbls] [Gd]
def kindD : D → Nat
  | .none => 0
  | .bool _ => 1
  | .int _ => 2
  | .str _ => 3
  | .list _ => 4
  | .tuple _ => 5
  | .dict _ => 6
def tagD : List D → Nat × Nat
  | [] => (0, 9)
  | d :: r => (r.length + 1, kindD d)
def tagB (a b : Nat × Nat) : Bool := Nat.beq a.1 b.1 && Nat.beq a.2 b.2
theorem tagB_of {a b : Nat × Nat} (h : a = b) : tagB a b = true := by
  subst h
  simp [tagB]
mutual
/-- no list of this look in it, no dict -/
def noTag (t : Nat × Nat) : D → Bool
  | .list ds => !tagB (tagD ds) t && noTags t ds
  | .tuple ds => noTags t ds
  | .dict _ => false
  | _ => true
def noTags (t : Nat × Nat) : List D → Bool
  | [] => true
  | d :: ds => noTag t d && noTags t ds
end
def noTagM (t : Nat × Nat) : MO → Bool
  | .l ds => noTags t ds
  | .k ps => ps.all fun p => noTag t p.2
  | _ => false
theorem kind_eq {Z Z2 : Zs} {H : Hp} {v : V} {d d2 : D} (a : Rp Z H v d) (b : Rp Z2 H v d2) : kindD d = kindD d2 := by
  cases a with
  | non => cases b; rfl
  | bl x => cases b; rfl
  | int x => cases b; rfl
  | str x => cases b; rfl
  | lst z h r =>
    cases b with
    | lst _ _ _ => rfl
    | tup z2 h2 r2 => rcases h2 with ⟨o, e, _⟩ | ⟨_, e⟩ <;> rw [h] at e <;> cases e
    | dct z2 h2 r2 => rcases h2 with e | ⟨o, e⟩ <;> rw [h] at e <;> cases e
  | tup z h r =>
    cases b with
    | lst z2 h2 r2 => rcases h with ⟨o, e, _⟩ | ⟨_, e⟩ <;> rw [h2] at e <;> cases e
    | tup _ _ _ => rfl
    | dct z2 h2 r2 => rcases h with ⟨o, e, _⟩ | ⟨_, e⟩ <;> rcases h2 with f | ⟨o2, f⟩ <;> rw [e] at f <;> cases f
  | dct z h r =>
    cases b with
    | lst z2 h2 r2 => rcases h with e | ⟨o, e⟩ <;> rw [h2] at e <;> cases e
    | tup z2 h2 r2 => rcases h with e | ⟨o, e⟩ <;> rcases h2 with ⟨o2, f, _⟩ | ⟨_, f⟩ <;> rw [e] at f <;> cases f
    | dct _ _ _ => rfl
theorem tag_eq {Z Z2 : Zs} {H : Hp} {us : List V} {ds es : List D} (a : RpA Z H us ds) (b : RpA Z2 H us es) : tagD ds = tagD es := by
  cases a with
  | nil => cases b; rfl
  | cons h t =>
    cases b with
    | cons h2 t2 => simp only [tagD, ← t.length, ← t2.length, kind_eq h h2]
def Looks (H : Hp) (ts : List (Nat × Nat)) (a : Addr) : Prop := ∃ (us : List V) (W : Zs) (ds : List D), H a = some (.lst us) ∧ RpA W H us ds ∧ tagD ds ∈ ts
mutual
theorem Rp.apart {Y Y' : Zs} {H : Hp} {ts : List (Nat × Nat)} (k : ∀ a, ¬ Y a → Y' a → Looks H ts a) : ∀ {v : V} {d : D}, Rp Y H v d → (∀ t ∈ ts, noTag t d = true) → Rp Y' H v d
  | _, _, .non, _ => .non
  | _, _, .bl b, _ => .bl b
  | _, _, .int i, _ => .int i
  | _, _, .str x, _ => .str x
  | _, _, .lst z h r, e => .lst (fun y => by
      obtain ⟨us, W, es, q1, q2, q3⟩ := k _ z y
      rw [h] at q1
      cases q1
      have := e _ q3
      simp only [noTag, Bool.and_eq_true, Bool.not_eq_true', tagB_of (tag_eq r q2)] at this
      exact absurd this.1 (by simp)) h (RpA.apart k r fun t ht => by
      have := e t ht
      simp only [noTag, Bool.and_eq_true] at this
      exact this.2)
  | _, _, .tup z h r, e => .tup (fun y => by
      obtain ⟨us, W, es, q1, q2, q3⟩ := k _ z y
      rcases h with ⟨o, f, _⟩ | ⟨_, f⟩ <;> rw [q1] at f <;> cases f) h (RpA.apart k r fun t ht => by
      have := e t ht
      simpa only [noTag] using this)
  | _, _, .dct z h r, e => .dct (fun y => by
      obtain ⟨us, W, es, q1, q2, q3⟩ := k _ z y
      have := e _ q3
      simp [noTag] at this) h (RpK.apart k r fun t ht => by
      have := e t ht
      simp [noTag] at this)
theorem RpA.apart {Y Y' : Zs} {H : Hp} {ts : List (Nat × Nat)} (k : ∀ a, ¬ Y a → Y' a → Looks H ts a) : ∀ {us : List V} {ds : List D}, RpA Y H us ds → (∀ t ∈ ts, noTags t ds = true) → RpA Y' H us ds
  | _, _, .nil, _ => .nil
  | _, _, .cons h r, e => .cons (Rp.apart k h fun t ht => by
      have := e t ht
      simp only [noTags, Bool.and_eq_true] at this
      exact this.1) (RpA.apart k r fun t ht => by
      have := e t ht
      simp only [noTags, Bool.and_eq_true] at this
      exact this.2)
theorem RpK.apart {Y Y' : Zs} {H : Hp} {ts : List (Nat × Nat)} (k : ∀ a, ¬ Y a → Y' a → Looks H ts a) : ∀ {us : List (Key × V)} {ps : List (D × D)}, RpK Y H us ps → (∀ t ∈ ts, (ps.all fun p => noTag t p.2) = true) → RpK Y' H us ps
  | _, _, .nil, _ => .nil
  | _, _, .cons h r, e => .cons (Rp.apart k h fun t ht => by
      have := e t ht
      simp only [List.all_cons, Bool.and_eq_true] at this
      exact this.1) (RpK.apart k r fun t ht => by
      have := e t ht
      simp only [List.all_cons, Bool.and_eq_true] at this
      exact this.2)
end
def tagsOf (k : Option Nat) (o : List MO) : List SV → Option (List (Nat × Nat))
  | [] => some []
  | .d _ :: xs => tagsOf k o xs
  | .m j :: xs => if k = some j then none else (match o[j]? with
    | some (.l ds) => (match tagsOf k o xs with
      | some ts => some (tagD ds :: ts)
      | none => none)
    | _ => none)
  | _ :: _ => none
theorem tagsOf_ok {Z : Zs} {M : List Addr} {o : List MO} {H : Hp} {k : Option Nat} (r : Rob Z M o H) : ∀ {vs : List V} {xs : List SV} {ts : List (Nat × Nat)}, RvA Z M H vs xs → tagsOf k o xs = some ts → ∀ a, a ∈ M → V.ref a ∈ vs →
    Looks H ts a ∧ ∀ j, k = some j → M[j]? ≠ some a
  | [], [], _, .nil, _, a, _, h => absurd h (by simp)
  | v :: vs, x :: xs, ts, .cons h t, e, a, ha, hv => by
    cases x with
    | d y =>
      simp only [tagsOf] at e
      rcases List.mem_cons.mp hv with q | q
      · subst q
        exfalso
        have h2 : Rp (zz Z M) H (.ref a) y := h
        cases h2 with
        | lst z _ _ => exact z (.inr ha)
        | tup z _ _ => exact z (.inr ha)
        | dct z _ _ => exact z (.inr ha)
      · exact tagsOf_ok r t e a ha q
    | m j =>
      simp only [tagsOf] at e
      split at e
      · cases e
      · rename_i hk
        split at e
        · rename_i ds hj
          split at e
          · rename_i ts' e'
            cases e
            rcases List.mem_cons.mp hv with q | q
            · subst q
              obtain ⟨b, hb, eb⟩ := h
              cases eb
              obtain ⟨us, q1, q2⟩ := r.ob j a _ hb hj
              refine ⟨⟨us, _, ds, q1, q2, List.mem_cons_self⟩, fun i hi z => hk ?_⟩
              rw [hi]
              congr 1
              exact nodup_get r.nd z hb
            · obtain ⟨⟨us, W, es, q1, q2, q3⟩, q4⟩ := tagsOf_ok r t e' a ha q
              exact ⟨⟨us, W, es, q1, q2, List.mem_cons_of_mem _ q3⟩, q4⟩
          · cases e
        · cases e
    | w u => simp [tagsOf] at e
    | q _ _ => simp [tagsOf] at e
    | t _ => simp [tagsOf] at e
def mCallFT (n : Nat) (f : Fun2) (a : AM) : EM := fun s => match a s with
  | some (.m k :: xs, o1) => (match o1[k]?, vws o1 xs, tagsOf (some k) o1 xs with
    | some fo, some ds, some ts => if ds.length + 1 = n then (match f fo ds with
      | some (d, fo') => if (ts.all fun t => noTag t d && noTagM t fo') = true then some (.d d, o1.set k fo') else none
      | none => none) else none
    | _, _, _ => none)
  | _ => none
theorem sn_callFT {n : Nat} {f : Fun2} {E : XK} {ta : TA} {a : AM} (ha : SnA ta a) (hfl : FlatF f := by exact flatF_run) : Sn (tCall (spF n f) [] E ta) (mCallFT n f a) := by
  intro Z M s σ H h w o' e Q q
  unfold mCallFT at e
  split at e
  · rename_i k xs o1 ea
    refine ha Z M s σ H h _ _ ea _ fun M1 vs H1 e1 h1 r1 => ?_
    split at e
    · rename_i fo ds ts hk hd ht
      split at e
      · rename_i hn
        split at e
        · rename_i d fo' hf
          split at e
          · rename_i hno
            cases e
            obtain ⟨fl1, fl2⟩ := hfl fo ds d fo' hf
            cases r1 with
            | cons hv hr =>
              rename_i v0 vr
              obtain ⟨F, hF, rfl⟩ := hv
              have FM : F ∈ M1 := List.mem_of_getElem? hF
              show spF n f (_ ++ []) H1 Q E
              rw [List.append_nil]
              have look := tagsOf_ok (k := some k) h1.r hr ht
              have notF : ∀ b, b ∈ M1 → V.ref b ∈ vr → b ≠ F := fun b hb hv e => (look b hb hv).2 k rfl (e ▸ hF)
              let Z' : Zs := fun a => (Z a ∨ (a ∈ M1 ∧ a ≠ F)) ∧ ¬ (a ∈ M1 ∧ V.ref a ∈ vr)
              have up : ∀ b, zb Z M1 vr b → b ≠ F → Z' b := fun b z nf => ⟨z.1.elim .inl fun z => .inr ⟨z, nf⟩, z.2⟩
              have dn : ∀ b, zz Z' [F] b → zb Z M1 vr b ∨ b = F := fun b z => z.elim (fun z => .inl ⟨z.1.elim .inl fun z => .inr z.1, z.2⟩) fun z => .inr (by simpa using z)
              -- the arguments
              have args : RpA (zz Z' [F]) H1 vr ds := (args_zb h1.r (fun _ h => h) hr hd).mono fun b u z q _ => ⟨fun y => (dn b y).elim z fun e => by
                subst e
                refine z ⟨.inr FM, fun y => notF _ FM y.2 rfl⟩, q⟩
              have feed : Ro Z' [F] H1 F fo := Ro.mono (fun b z => (dn b z).elim (fun z => z.1) fun e => e ▸ .inr FM) (h1.r.ob k F fo hF hk) fl1
              refine ⟨Z', F, _, fo, ds, d, fo', rfl, ⟨fun b z => h1.r.zzh b (z.1.elim .inl fun z => .inr z.1), h1.r.tb⟩, ?_, feed, args, hn, hf, fun v H' kp ro rv => ?_⟩
              · rintro ⟨z | z, _⟩
                · exact h1.r.nz F FM z
                · exact z.2 rfl
              have dom : ∀ b, Has H1 b → Has H' b := kp.dom
              have ex : Ext M1 H1 M1 H' := ⟨⟨[], by simp⟩, fun b hb _ => hb, fun b o hb e t => kp.at_ b o (fun z => hb (z ▸ FM)) e t, dom, kp.tab⟩
              have ex2 : Ex2 M1 H1 M1 H' := ⟨ex, rfl⟩
              -- what looks like a handed list now
              have now : ∀ b, ¬ zz Z' [F] b → zz Z M1 b → Looks H' ts b := fun b nz z => by
                have bF : b ≠ F := fun e => nz (.inr (by simp [e]))
                have hh : b ∈ M1 ∧ V.ref b ∈ vr := Classical.byContradiction fun hn => nz (.inl ⟨z.elim .inl fun z => .inr ⟨z, bF⟩, hn⟩)
                obtain ⟨us, W, es, q1, q2, q3⟩ := (look b hh.1 hh.2).1
                obtain ⟨j, hj, ej⟩ := List.getElem_of_mem hh.1
                have hjk : M1[j]? = some b := by rw [List.getElem?_eq_getElem hj, ej]
                have hjl : j < o1.length := by rw [show o1.length = M1.length from h1.r.len]; exact hj
                have ob := h1.r.ob j b _ hjk (List.getElem?_eq_getElem hjl)
                cases eo : o1[j] with
                | l es2 =>
                  rw [eo] at ob
                  obtain ⟨us2, p1, p2⟩ := ob
                  rw [q1] at p1
                  cases p1
                  refine ⟨us, zz Z M1, es2, kp.at_ b _ bF q1 nt_lst, p2.mono fun c u zc e t => ⟨zc, ?_⟩, by rw [tag_eq p2 q2]; exact q3⟩
                  exact kp.at_ c u (fun e => zc (.inr (e ▸ FM))) e t
                | k ps => rw [eo] at ob; obtain ⟨kvs, p1, _⟩ := ob; rw [q1] at p1; cases p1
                | r ks =>
                  rw [eo] at ob
                  obtain ⟨us2, p1, p2⟩ := ob
                  rw [q1] at p1
                  cases p1
                  -- a list of references: its look is that of no data that may be seen
                  cases p2 with
                  | nil => exact ⟨_, fun _ => False, [], kp.at_ b _ bF q1 nt_lst, .nil, by cases q2; exact q3⟩
                  | cons hm _ =>
                    exfalso
                    rename_i a0 k0 vs0 ks0
                    have hv : V.ref b ∈ vr := hh.2
                    have : ∀ {vs : List V} {xs : List SV} {ts : List (Nat × Nat)}, RvA Z M1 H1 vs xs → tagsOf (some k) o1 xs = some ts → V.ref b ∈ vs → ∃ ds, o1[j]? = some (.l ds) := by
                      intro vs
                      induction vs with
                      | nil => intro xs ts _ _ h; simp at h
                      | cons v vs ih =>
                        intro xs ts r e h
                        cases r with
                        | cons rh rt =>
                          rename_i x xs
                          cases x with
                          | d y =>
                            simp only [tagsOf] at e
                            rcases List.mem_cons.mp h with q | q
                            · subst q
                              exfalso
                              have h2 : Rp (zz Z M1) H1 (.ref b) y := rh
                              cases h2 with
                              | lst z _ _ => exact z (.inr hh.1)
                              | tup z _ _ => exact z (.inr hh.1)
                              | dct z _ _ => exact z (.inr hh.1)
                            · exact ih rt e q
                          | m i =>
                            simp only [tagsOf] at e
                            split at e
                            · cases e
                            · split at e
                              · rename_i ds hi
                                split at e
                                · rename_i ts' e'
                                  rcases List.mem_cons.mp h with q | q
                                  · subst q
                                    obtain ⟨b2, hb, eb⟩ := rh
                                    cases eb
                                    exact ⟨ds, by rw [nodup_get h1.r.nd hjk hb]; exact hi⟩
                                  · exact ih rt e' q
                                · cases e
                              · cases e
                          | w u => simp [tagsOf] at e
                          | q _ _ => simp [tagsOf] at e
                          | t _ => simp [tagsOf] at e
                    obtain ⟨ds, hds⟩ := this hr ht hv
                    rw [List.getElem?_eq_getElem hjl, eo] at hds
                    cases hds
                | g ps => rw [eo] at ob; obtain ⟨kvs, p1, _⟩ := ob; rw [q1] at p1; cases p1
              have no1 : ∀ t ∈ ts, noTag t d = true := fun t ht => by
                have := List.all_eq_true.mp hno t ht
                rw [Bool.and_eq_true] at this
                exact this.1
              have no2 : ∀ t ∈ ts, noTagM t fo' = true := fun t ht => by
                have := List.all_eq_true.mp hno t ht
                rw [Bool.and_eq_true] at this
                exact this.2
              have feed2 : Ro Z M1 H' F fo' := by
                cases fo' with
                | l es => obtain ⟨us, p1, p2⟩ := ro; exact ⟨us, p1, p2.apart now no2⟩
                | k ps =>
                  obtain ⟨us, p1, p2⟩ := ro
                  refine ⟨us, p1, p2.apart now fun t ht => ?_⟩
                  have := no2 t ht
                  simpa [noTagM, kvD, List.all_map] using this
                | r ks => cases fl2
                | g ps => cases fl2
              have rob2 : Rob Z M1 (o1.set k fo') H' := by
                refine ⟨h1.r.nd, fun b hb => dom b (h1.r.zs b hb), h1.r.nz, ?_, fun j b y h2 h3 => ?_, kp.tab h1.r.tb⟩
                · rw [List.length_set]; exact h1.r.len
                · by_cases hj : j = k
                  · subst hj
                    rw [hF] at h2
                    cases h2
                    have hl : j < o1.length := (List.getElem?_eq_some_iff.mp hk).1
                    rw [List.getElem?_set_self hl] at h3
                    cases h3
                    exact feed2
                  · rw [List.getElem?_set_ne (Ne.symm hj)] at h3
                    have nb : b ≠ F := fun z => hj (nodup_get h1.r.nd h2 (z ▸ hF))
                    exact (h1.r.ob j b y h2 h3).ext ex fun o z t => kp.at_ b o nb z t
              exact q M1 v H' (e1.trans ex2) (h1.ext_on (o := o1.set k fo') ex rob2) (rv.apart now no1)
          · cases e
        · cases e
      · cases e
    · cases e
  · cases e
end
end
end AP

namespace AP
noncomputable section
open PySem PySem.Spec PyProof.Rows L2 RZ
section
variable [Tbls] [Gd]
end
end
end AP

namespace AP
noncomputable section
open PySem PySem.Spec PyProof.Rows L2 RZ
section
variable [Tbls] [Gd]
def loopK (k : Nat) (g : GM) (b : SM) (n : Nat) : Nat → SM
  | 0, s => match s.o[k]? with
    | some (.l ds) => if ds.length = n then some (.nx s) else none
    | _ => none
  | r + 1, s => match s.o[k]? with
    | some (.l ds) => if ds.length = n then (match ds[n - (r + 1)]? with
      | none => none
      | some d => match g (.d d) s with
        | none => none
        | some s1 => match b s1 with
          | none => none
          | some (.nx s2) => loopK k g b n r s2
          | some (.ct s2) => loopK k g b n r s2
          | some (.bk s2) => some (.nx s2)
          | some (.rt v o) => some (.rt v o)) else none
    | _ => none
def mForK (a : EM) (g : GM) (b : SM) : SM := fun s => match a s with
  | some (.m k, o1) => (match o1[k]? with
    | some (.l ds) => loopK k g b ds.length ds.length (s.on o1)
    | _ => none)
  | _ => none
theorem walkL {K : PySem.W.Frag} {a : Addr} {n : Nat} : L2.Walk (Itl K a) n (fun H => ∃ xs, SqL K H a xs ∧ xs.length = n) (fun i H x H' => H' = H ∧ ∀ xs, SqL K H a xs → xs[i]? = some x) :=
  ⟨fun i _ hi q => by
    obtain ⟨xs, q, e⟩ := q
    subst e
    exact ⟨xs, xs[i], q, by simp [hi]⟩, fun _ q => by
    obtain ⟨xs, q, e⟩ := q
    exact ⟨xs, q, by omega⟩, fun _ _ _ _ _ _ y => ⟨y.1, y.2⟩⟩
theorem loopK_at {k : Nat} {g : GM} {b : SM} {n r : Nat} {s : S} {out : Out} (h : loopK k g b n r s = some out) : ∃ ds, s.o[k]? = some (.l ds) ∧ ds.length = n := by
  cases r with
  | zero =>
    unfold loopK at h
    split at h
    · rename_i ds e
      split at h
      · rename_i hl
        exact ⟨ds, e, hl⟩
      · cases h
    · cases h
  | succ r =>
    unfold loopK at h
    split at h
    · rename_i ds e
      split at h
      · rename_i hl
        exact ⟨ds, e, hl⟩
      · cases h
    · cases h
theorem ss_forK {K : PySem.W.Frag} {te : TE} {tg : TG} {tb : TS} {a : EM} {g : GM} {b : SM} (ha : Sn te a) (hg : SnG tg g) (hb : SnS tb b) : SnS (tFor (iAny K te) tg tb) (mForK a g b) := by
  intro Z M s σ H h out e E f
  unfold mForK at e
  split at e
  · rename_i k o1 ea
    split at e
    · rename_i ds0 hk
      refine .inl (.inl (ha Z M s σ H h _ _ ea _ fun M1 v1 H1 ⟨e1, m1⟩ h1 r1 => ?_))
      subst m1
      obtain ⟨ad, hM, rfl⟩ := r1
      obtain ⟨xs0, hx0, rx0⟩ := h1.r.ob k ad _ hM hk
      refine ⟨_, rfl, ⟨_, SqL.of hx0⟩, ?_⟩
      have at_ : ∀ {M2 : List Addr} {s2 : S} {σ2 : L2.St} {H2 : Hp} {ds : List D}, Rel Z M2 s2 σ2 H2 → Ext M1 H1 M2 H2 → s2.o[k]? = some (.l ds) → ∃ xs, H2 ad = some (.lst xs) ∧ RpA (zz Z M2) H2 xs ds := fun h2 e2 hd => by
        obtain ⟨ee, hee⟩ := e2.pre
        exact h2.r.ob k ad _ (by rw [hee, List.getElem?_append_left (List.getElem?_eq_some_iff.mp hM).1]; exact hM) hd
      refine L2.for_it (walkL (n := ds0.length)) (fun i σ2 H2 => ∃ M2 s2, Ext M1 H1 M2 H2 ∧ Rel Z M2 s2 σ2 H2 ∧ loopK k g b ds0.length (ds0.length - i) s2 = some out) ⟨M1, _, Ext.refl M1 H1, h1, e⟩ ?_ ?_ ?_
      · rintro i σ2 H2 _ ⟨M2, s2, x2, h2, l2⟩
        obtain ⟨ds, hd, hl⟩ := loopK_at l2
        obtain ⟨xs, hx, rx⟩ := at_ h2 x2 hd
        exact ⟨xs, SqL.of hx, by rw [rx.length, hl]⟩
      · rintro i x σ2 H2 H3 hin ⟨M2, s2, e2, h2, l2⟩ ⟨rfl, hy⟩
        obtain ⟨r, hr⟩ : ∃ r, ds0.length - i = r + 1 := ⟨ds0.length - i - 1, by omega⟩
        rw [hr] at l2
        unfold loopK at l2
        split at l2
        · rename_i ds hd
          split at l2
          · rename_i hl
            obtain ⟨xs, hx, rx⟩ := at_ h2 e2 hd
            obtain ⟨d, h4, rd⟩ := rx.getV (hy xs (SqL.of hx))
            rw [show ds0.length - (r + 1) = i by omega, h4] at l2
            dsimp only at l2
            split at l2
            · cases l2
            · rename_i s3 es
              refine hg Z M2 s2 σ2 _ h2 x (.d d) rd s3 es _ fun M4 σ4 H4 e4 h4 => ?_
              have e24 : Ext M1 H1 M4 H4 := e2.trans e4.toExt
              have e04 : Ext M1 H M4 H4 := e1.trans e24
              have er : ds0.length - (i + 1) = r := by omega
              split at l2
              · cases l2
              · rename_i s5 eb
                refine hb Z M4 s3 σ4 H4 h4 _ eb _ ?_
                exact fun M6 σ6 H6 e6 h6 => ⟨M6, s5, e24.trans e6, h6, by rw [er]; exact l2⟩
              · rename_i s5 eb
                refine hb Z M4 s3 σ4 H4 h4 _ eb _ ?_
                exact fun M6 σ6 H6 e6 h6 => ⟨M6, s5, e24.trans e6, h6, by rw [er]; exact l2⟩
              · rename_i s5 eb
                cases l2
                refine hb Z M4 s3 σ4 H4 h4 _ eb _ ?_
                exact fun M6 σ6 H6 e6 h6 => f M6 σ6 H6 (e04.trans e6) h6
              · rename_i v5 o5 eb
                cases l2
                refine hb Z M4 s3 σ4 H4 h4 _ eb _ ?_
                exact fun M6 v6 H6 e6 h6 r6 => f M6 v6 H6 (e04.trans e6) h6 r6
          · cases l2
        · cases l2
      · rintro σ2 H2 ⟨M2, s2, e2, h2, l2⟩
        rw [Nat.sub_self] at l2
        unfold loopK at l2
        split at l2
        · split at l2
          · cases l2
            exact f M2 σ2 H2 (e1.trans e2) h2
          · cases l2
        · cases l2
    · cases e
  · cases e
end
end
end AP

namespace PD
noncomputable section
open PySem PySem.Spec PyProof.Rows L2 RZ AP
variable [Tbls]
abbrev FUEL : Nat := 200
def m_is_integer : SM := (mRet (mAndV (mIsi .int (mVar 0)) (mNotV (mIsi .bool (mVar 0)))))
def m_is_pair : SM := (mRet (mAndV (mIsi .tuple (mVar 0)) (mOp gEq (mCB gLen (mCons (mVar 0) mNil)) (mC (.int 2)))))
def lc_is_ascending_0 : NM := (mLc (mZipX (mCons (mVar 0) (mCons (mSl gSl (mVar 0) (mPart (mC (.int 1))) mNoPart) mNil))) (mgTup 2 (mgCons (mgName 1) (mgCons (mgName 2) mgNil))) mYes (mOp gLtW (mVar 1) (mVar 2)) [1, 2])
def m_is_ascending : SM := (mRet (mCB gAll (mCons (mDat lc_is_ascending_0) mNil)))
def lc_is_name_0 : NM := (mLc (mAnyI (mVar 0)) (mgName 1) mYes (mChain gLeW gLeW (mC (.str (Str.ofString "a"))) (mVar 1) (mC (.str (Str.ofString "z")))) [1])
def m_is_name : SM := (mSeq (mIfS (mOr (mNot (mTr (mIsi .str (mVar 0)))) (mNot (mTest (mChain gLeW gLeW (mC (.int 1)) (mCB gLen (mCons (mVar 0) mNil)) (mC (.int 8)))))) (mRet (mC (.bool false))) mNext) (mRet (mCB gAll (mCons (mDat lc_is_name_0) mNil))))
def m_is_name_pair : SM := (mRet (mAndV (mCall 1 (runP 1 m_is_pair) (mCons (mVar 0) mNil)) (mAndV (mCall 1 (runP 2 m_is_name) (mCons (mOp gIx (mVar 0) (mC (.int 0))) mNil)) (mCall 1 (runP 2 m_is_name) (mCons (mOp gIx (mVar 0) (mC (.int 1))) mNil)))))
def lc_is_houses_0 : NM := (mLc (mAnyI (mVar 0)) (mgName 1) mYes (mCall 1 (runP 2 m_is_name) (mCons (mVar 1) mNil)) [1])
def m_is_houses : SM := (mSeq (mIfS (mOr (mNot (mTr (mIsi .tuple (mVar 0)))) (mNot (mTr (mVar 0)))) (mRet (mC (.bool false))) mNext) (mRet (mAndV (mCB gAll (mCons (mDat lc_is_houses_0) mNil)) (mCall 1 (runP 3 m_is_ascending) (mCons (mVar 0) mNil)))))
def m_is_wire : SM := (mRet (mAndV (mCall 1 (runP 1 m_is_name_pair) (mCons (mVar 0) mNil)) (mOp gNe (mOp gIx (mVar 0) (mC (.int 0))) (mOp gIx (mVar 0) (mC (.int 1))))))
def lc_is_set_among_0 : NM := (mLc (mAnyI (mVar 0)) (mgName 2) mYes (mOp gIn (mVar 2) (mVar 1)) [2])
def m_is_set_among : SM := (mRet (mAndV (mCall 1 (runP 2 m_is_houses) (mCons (mVar 0) mNil)) (mCB gAll (mCons (mDat lc_is_set_among_0) mNil))))
def m_is_wire_among : SM := (mRet (mAndV (mCall 1 (runP 1 m_is_wire) (mCons (mVar 0) mNil)) (mAndV (mOp gIn (mOp gIx (mVar 0) (mC (.int 0))) (mVar 1)) (mOp gIn (mOp gIx (mVar 0) (mC (.int 1))) (mVar 1)))))
def lc_lets_net_0 : NM := (mDc (mAnyI (mVar 2)) (mgName 6) mYes (mVar 6) (mC (.bool true)) [6])
def fb_lets_net_1 : SM := (mIfS (mNot (mTr (mCall 2 (runP 2 m_is_wire_among) (mCons (mVar 5) (mCons (mVar 1) mNil))))) mNever mNext)
def fl_lets_net_2 : SM := (mFor (mEnum (mCons (mVar 3) mNil)) (mgTup 2 (mgCons (mgName 4) (mgCons (mgName 5) mgNil))) fb_lets_net_1)
def m_lets_net : SM := (mSeq (mIfS (mNot (mTr (mCall 1 (runP 1 m_is_pair) (mCons (mVar 0) mNil)))) mNever mNext) (mSeq (mAsg (mVar 0) (mgSeq 2 (mgCons (mgName 2) (mgCons (mgName 3) mgNil)))) (mSeq (mIfS (mNot (mTr (mCall 1 (runP 2 m_is_houses) (mCons (mVar 2) mNil)))) mNever mNext) (mSeq (mIfS (mNot (mTr (mIsi .tuple (mVar 3)))) mNever mNext) (mSeq (mAsg (mDat lc_lets_net_0) (mgName 1)) (mSeq fl_lets_net_2 (mRet (mCB gLen (mCons (mVar 3) mNil)))))))))
def m_need_net : SM := (mDrop (mCall 1 (runP 7 m_lets_net) (mCons (mVar 0) mNil)))
def lc_lets_holders_0 : NM := (mDc (mAnyI (mOp gIx (mVar 0) (mC (.int 0)))) (mgName 5) mYes (mVar 5) (mC (.bool true)) [5])
def fb_lets_holders_1 : SM := (mIfS (mNot (mTr (mCall 2 (runP 3 m_is_set_among) (mCons (mVar 4) (mCons (mVar 2) mNil))))) mNever mNext)
def fl_lets_holders_2 : SM := (mFor (mEnum (mCons (mVar 1) mNil)) (mgTup 2 (mgCons (mgName 3) (mgCons (mgName 4) mgNil))) fb_lets_holders_1)
def m_lets_holders : SM := (mSeq (mDrop (mCall 1 (runP 1 m_need_net) (mCons (mVar 0) mNil))) (mSeq (mIfS (mNot (mTr (mIsi .tuple (mVar 1)))) mNever mNext) (mSeq (mAsg (mDat lc_lets_holders_0) (mgName 2)) (mSeq fl_lets_holders_2 (mRet (mCB gLen (mCons (mVar 1) mNil)))))))
def m_need_holders : SM := (mDrop (mCall 2 (runP 6 m_lets_holders) (mCons (mVar 0) (mCons (mVar 1) mNil))))
def lc_comers_to_0 : NM := (mLc (mEnum (mCons (mOp gIx (mVar 0) (mC (.int 1))) mNil)) (mgTup 2 (mgCons (mgName 8) (mgCons (mgTup 2 (mgCons (mgName 9) (mgCons (mgName 10) mgNil))) mgNil))) (mTest (mOp gEq (mOp gIx (mVar 2) (mVar 8)) (mVar 3))) (mTup (mCons (mVar 8) (mCons (mVar 9) (mCons (mVar 10) mNil)))) [8, 9, 10])
def lc_comers_to_1 : NM := (mDc (mAnyI (mVar 1)) (mgName 7) mYes (mVar 7) (mUn gNeg (mC (.int 1))) [7])
def fb_comers_to_2 : SM := (mIfS (mAnd (mTest (mOp gEq (mVar 9) (mVar 7))) (mTest (mOp gNotIn (mVar 10) (mVar 5)))) (mSeq (mPut (mVar 8) (mVar 5) (mVar 10)) (mApp (mVar 6) (mVar 10))) mNext)
def fl_comers_to_3 : SM := (mFor (mAnyI (mVar 4)) (mgTup 3 (mgCons (mgName 8) (mgCons (mgName 9) (mgCons (mgName 10) mgNil)))) fb_comers_to_2)
def wb_comers_to_4 : SM := (mSeq (mAsg (mPop0 (mVar 6)) (mgName 7)) fl_comers_to_3)
def wl_comers_to_5 : SM := (whileM (mTr (mVar 6)) wb_comers_to_4 FUEL)
def m_comers_to : SM := (mSeq (mAsg (mDat lc_comers_to_0) (mgName 4)) (mSeq (mOwn lc_comers_to_1 5) (mSeq (mOwn (mListN (mVar 1)) 6) (mSeq wl_comers_to_5 (mRet (mVar 5))))))
def lc_comers_0 : NM := (mLc (mEnum (mCons (mVar 1) mNil)) (mgTup 2 (mgCons (mgName 3) (mgCons (mgName 4) mgNil))) mYes (mCall 4 (runP 11 m_comers_to) (mCons (mVar 0) (mCons (mVar 4) (mCons (mVar 2) (mCons (mVar 3) mNil))))) [3, 4])
def m_comers : SM := (mRet (mDat lc_comers_0))
def fb_lets_giving_0 : SM := (mIfS (mOr (mNot (mTr (mCall 1 (runP 1 m_is_integer) (mCons (mVar 6) mNil)))) (mNot (mTest (mChain gLeW gLtW (mUn gNeg (mC (.int 1))) (mVar 6) (mCB gLen (mCons (mVar 1) mNil)))))) mNever mNext)
def fl_lets_giving_1 : SM := (mFor (mEnum (mCons (mVar 2) mNil)) (mgTup 2 (mgCons (mgName 5) (mgCons (mgName 6) mgNil))) fb_lets_giving_0)
def fb_lets_giving_2 : SM := (mIfS (mAnd (mTest (mOp gNe (mVar 6) (mUn gNeg (mC (.int 1))))) (mTest (mOp gNotIn (mOp gIx (mOp gIx (mVar 3) (mVar 5)) (mC (.int 0))) (mOp gIx (mVar 4) (mVar 6))))) mNever mNext)
def fl_lets_giving_3 : SM := (mFor (mEnum (mCons (mVar 2) mNil)) (mgTup 2 (mgCons (mgName 5) (mgCons (mgName 6) mgNil))) fb_lets_giving_2)
def m_lets_giving : SM := (mSeq (mDrop (mCall 2 (runP 2 m_need_holders) (mCons (mVar 0) (mCons (mVar 1) mNil)))) (mSeq (mAsg (mOp gIx (mVar 0) (mC (.int 1))) (mgName 3)) (mSeq (mIfS (mOr (mNot (mTr (mIsi .tuple (mVar 2)))) (mTest (mOp gNe (mCB gLen (mCons (mVar 2) mNil)) (mCB gLen (mCons (mVar 3) mNil))))) mNever mNext) (mSeq fl_lets_giving_1 (mSeq (mAsg (mCall 3 (runP 5 m_comers) (mCons (mVar 0) (mCons (mVar 1) (mCons (mVar 2) mNil)))) (mgName 4)) (mSeq fl_lets_giving_3 (mRet (mOp gSub (mCB gLen (mCons (mVar 2) mNil)) (mSeqM gCntT gCntL (mVar 2) (mUn gNeg (mC (.int 1))))))))))))
def m_need_giving : SM := (mDrop (mCall 3 (runP 7 m_lets_giving) (mCons (mVar 0) (mCons (mVar 1) (mCons (mVar 2) mNil)))))
def lc_having_0 : NM := (mLc (mAnyI (mCall 3 (runP 5 m_comers) (mCons (mVar 0) (mCons (mVar 1) (mCons (mVar 2) mNil))))) (mgName 3) mYes (mCB gTuple (mCons (mCB gSortedX (mCons (mVar 3) mNil)) mNil)) [3])
def m_having : SM := (mSeq (mDrop (mCall 3 (runP 3 m_need_giving) (mCons (mVar 0) (mCons (mVar 1) (mCons (mVar 2) mNil))))) (mRet (mCB gTuple (mCons (mDat lc_having_0) mNil))))
def m__is_idle : SM := (mSeq (mAsg (mOp gIx (mVar 2) (mVar 3)) (mgName 4)) (mSeq (mAsg (mTup (mStar (mSl gSl (mVar 2) mNoPart (mPart (mVar 3))) (mCons (mUn gNeg (mC (.int 1))) (mStar (mSl gSl (mVar 2) (mPart (mOp gAddU (mVar 3) (mC (.int 1)))) mNoPart) mNil)))) (mgName 5)) (mSeq (mAsg (mOp gIx (mVar 1) (mVar 4)) (mgName 6)) (mRet (mOp gEq (mCB gLen (mCons (mCall 4 (runP 11 m_comers_to) (mCons (mVar 0) (mCons (mVar 6) (mCons (mVar 5) (mCons (mVar 4) mNil))))) mNil)) (mCB gLen (mCons (mCall 4 (runP 11 m_comers_to) (mCons (mVar 0) (mCons (mVar 6) (mCons (mVar 2) (mCons (mVar 4) mNil))))) mNil)))))))
def lc_idle_wires_0 : NM := (mLc (mEnum (mCons (mVar 2) mNil)) (mgTup 2 (mgCons (mgName 4) (mgCons (mgName 5) mgNil))) (mTest (mOp gNe (mVar 5) (mUn gNeg (mC (.int 1))))) (mVar 4) [4, 5])
def lc_idle_wires_1 : NM := (mLc (mAnyI (mVar 3)) (mgName 4) (mTr (mCall 4 (runP 7 m__is_idle) (mCons (mVar 0) (mCons (mVar 1) (mCons (mVar 2) (mCons (mVar 4) mNil)))))) (mVar 4) [4])
def m_idle_wires : SM := (mSeq (mDrop (mCall 3 (runP 3 m_need_giving) (mCons (mVar 0) (mCons (mVar 1) (mCons (mVar 2) mNil))))) (mSeq (mAsg (mDat lc_idle_wires_0) (mgName 3)) (mRet (mCB gTuple (mCons (mDat lc_idle_wires_1) mNil)))))
end
end PD

namespace AP
noncomputable section
open PySem PySem.Spec PyProof.Rows L2 RZ
variable [Tbls] [Gd]
def net (hs : List Str) (ws : List (Str × Str)) : D := .tuple [T hs, .tuple (ws.map pr)]
def okW (hs : List Str) (ws : List (Str × Str)) : Prop := ∀ p ∈ ws, p.1 ∈ hs ∧ p.2 ∈ hs ∧ p.1 ≠ p.2
theorem gEqI (i j : Int) : gEq (.int i) (.int j) = some (.bool (i == j)) := rfl
theorem gNeS (x y : Str) : gNe (.str x) (.str y) = some (.bool (!decide (x = y))) := rfl
theorem sortS_len (xs : List Str) : (sortS xs).length = xs.length := by
  exact (sortS_perm xs).length_eq
theorem gSortedW_strs {xs : List Str} (h : xs.length < 64) : gSortedW [.list (xs.map .str)] = some (.list ((sortS xs).map .str)) := by
  unfold gSortedW gSortedU
  simp only [gSorted_strs h]
structure Nice (hs : List Str) : Prop where
  ok : ∀ a ∈ hs, PyData.strOk a = true
  sh : ∀ a ∈ hs, a.length ≤ 8
  ne : hs ≠ []
  l8 : hs.length ≤ 8
  nd : hs.Nodup
end
end AP

namespace PL
noncomputable section
open PySem PySem.Spec PyProof.Rows L2 RZ AP
section
variable [Tbls] [Gd]
theorem gEqI (i j : Int) : gEq (.int i) (.int j) = some (.bool (i == j)) := rfl
theorem gNeI (i j : Int) : gNe (.int i) (.int j) = some (.bool (!(i == j))) := rfl
theorem gEqS (x y : Str) : gEq (.str x) (.str y) = some (.bool (decide (x = y))) := rfl
theorem gNeS (x y : Str) : gNe (.str x) (.str y) = some (.bool (!decide (x = y))) := rfl
theorem gLtI (i j : Int) : gLtW (.int i) (.int j) = some (.bool (decide (i < j))) := rfl
theorem gLeI (i j : Int) : gLeW (.int i) (.int j) = some (.bool (decide (i ≤ j))) := rfl
theorem gGtUI (i j : Int) : gGtU (.int i) (.int j) = some (.bool (decide (j < i))) := rfl
theorem gAddI (i j : Int) : gAddU (.int i) (.int j) = some (.int (i + j)) := rfl
theorem gSubI (i j : Int) : gSub (.int i) (.int j) = some (.int (i - j)) := rfl
theorem gNegI (i : Int) : gNeg (.int i) = some (.int (-i)) := rfl
theorem gLtS (x y : Str) : gLtW (.str x) (.str y) = some (.bool (decide (x.cps.toList < y.cps.toList))) := rfl
theorem tkS (x : Str) : toKey (.str x) = some (.inr x) := rfl
theorem gLenT (ds : List D) : gLen [.tuple ds] = some (.int ds.length) := rfl
theorem gLenL (ds : List D) : gLen [.list ds] = some (.int ds.length) := rfl
theorem gLenD (ds : List (D × D)) : gLen [.dict ds] = some (.int ds.length) := rfl
theorem gTupL (ds : List D) : gTuple [.list ds] = some (.tuple ds) := rfl
theorem atI_nat {α : Type} (xs : List α) (k : Nat) : atI xs (k : Int) = xs[k]? := by
  unfold atI ixN
  rw [if_pos (by omega)]
  by_cases h : k < xs.length
  · rw [if_pos (by omega)]
    show xs[((k : Int)).toNat]? = _
    rw [Int.toNat_natCast]
  · rw [if_neg (by omega), List.getElem?_eq_none (by omega)]
    rfl
theorem gIxT (xs : List D) (k : Nat) : gIx (.tuple xs) (.int (k : Int)) = xs[k]? := atI_nat xs k
theorem gIxL (xs : List D) (k : Nat) : gIx (.list xs) (.int (k : Int)) = xs[k]? := atI_nat xs k
theorem gIx0 (a : D) (r : List D) : gIx (.tuple (a :: r)) (.int 0) = some a := gIxT _ 0
theorem gIx1 (a b : D) (r : List D) : gIx (.tuple (a :: b :: r)) (.int 1) = some b := gIxT _ 1
theorem enum_map {α : Type} (en : α → D) : ∀ (xs : List α) (k : Nat), enumD (k : Int) (xs.map en) = (xs.zipIdx k).map fun p => PyData.tuple [.int (p.2 : Nat), en p.1]
  | [], _ => rfl
  | x :: xs, k => by
    have := enum_map en xs (k + 1)
    simp only [List.map_cons, enumD, List.zipIdx_cons]
    rw [show ((k : Int) + 1) = ((k + 1 : Nat) : Int) by omega, this]
theorem enum0 {α : Type} (en : α → D) (xs : List α) : enumD 0 (xs.map en) = xs.zipIdx.map fun p => PyData.tuple [.int (p.2 : Nat), en p.1] := enum_map en xs 0
theorem zip_map {α β : Type} (en : α → D) (em : β → D) : ∀ (xs : List α) (ys : List β), zipD (xs.map en) (ys.map em) = (xs.zip ys).map fun p => PyData.tuple [en p.1, em p.2]
  | [], _ => by simp [zipD]
  | _ :: _, [] => by simp [zipD]
  | x :: xs, y :: ys => by simp [zipD, zip_map en em xs ys]
abbrev nI (k : Nat) : D := .int (k : Int)
theorem lc_loopT {α : Type} {g : GM} {c : TM} {e : EM} {τ : List (Option SV)} {o0 : List MO} {en : α → D} {p : α → Bool} {f : α → D} : ∀ (xs : List α) (acc : List D), acc.length + xs.length ≤ 100000 →
    (∀ x ∈ xs, ∀ acc : List D, Turn1 g c e τ (o0 ++ [.l acc]) (en x) (p x) (f x)) → lcLoop o0.length g c e τ (xs.map en) (o0 ++ [.l acc]) = some (o0 ++ [.l (acc ++ (xs.filter p).map f)])
  | [], acc, _, _ => by simp [lcLoop]
  | d :: r, acc, hl, h => by
    obtain ⟨s2, h1, h2, h3⟩ := h d List.mem_cons_self acc
    simp only [List.length_cons] at hl
    rw [List.map_cons]
    unfold lcLoop
    rw [h1]
    dsimp only
    rw [h2]
    cases hp : p d with
    | false =>
      dsimp only
      rw [lc_loopT r acc (by omega) fun d hd => h d (List.mem_cons_of_mem _ hd), List.filter_cons_of_neg (by rw [hp]; decide)]
    | true =>
      dsimp only
      rw [h3 hp]
      dsimp only
      have e1 : (o0 ++ [MO.l acc])[o0.length]? = some (.l acc) := by rw [List.getElem?_append_right (Nat.le_refl _)]; simp
      rw [e1]
      dsimp only
      rw [if_pos (show acc.length < 100000 by omega)]
      have e2 : (o0 ++ [MO.l acc]).set o0.length (.l (acc ++ [f d])) = o0 ++ [.l (acc ++ [f d])] := by
        rw [List.set_append_right _ _ (Nat.le_refl _)]; simp
      rw [e2, lc_loopT r (acc ++ [f d]) (by simp only [List.length_append, List.length_cons, List.length_nil]; omega) fun d hd => h d (List.mem_cons_of_mem _ hd), List.filter_cons_of_pos hp, List.map_cons, List.append_assoc]
      rfl
theorem lcT {α : Type} {im : IM} {g : GM} {c : TM} {e : EM} {vs : List Nat} {s : S} (en : α → D) (xs : List α) (p : α → Bool) (f : α → D) (hi : im s = some (xs.map en, s.o)) (hl : xs.length ≤ 100000)
    (h : ∀ x ∈ xs, ∀ acc : List D, Turn1 g c e (wipeS s.σ vs) (s.o ++ [.l acc]) (en x) (p x) (f x)) : mLc im g c e vs s = some (.l ((xs.filter p).map f), s.o) := by
  unfold mLc
  rw [hi]
  dsimp only
  rw [lc_loopT xs [] (by simpa using hl) h]
  dsimp only
  rw [List.getElem?_append_right (Nat.le_refl _)]
  simp
theorem lcA {α : Type} {im : IM} {g : GM} {e : EM} {vs : List Nat} {s : S} (en : α → D) (xs : List α) (f : α → D) (hi : im s = some (xs.map en, s.o)) (hl : xs.length ≤ 100000)
    (h : ∀ x ∈ xs, ∀ acc : List D, ∃ s2 : S, g (.d (en x)) ⟨wipeS s.σ vs, s.o ++ [.l acc]⟩ = some s2 ∧ s2.o = s.o ++ [.l acc] ∧ e s2 = some (.d (f x), s.o ++ [.l acc])) : mLc im g mYes e vs s = some (.l (xs.map f), s.o) := by
  have := lcT (c := mYes) (p := fun _ => true) en xs f hi hl fun x hx acc => by
    obtain ⟨⟨σ2, o2⟩, h1, h2, h3⟩ := h x hx acc
    simp only at h2
    subst h2
    exact ⟨_, h1, rfl, fun _ => h3⟩
  rw [List.filter_eq_self.mpr (fun _ _ => rfl)] at this
  exact this
theorem loopT {α : Type} {g : GM} {b : SM} {en : α → D} (P : Nat → S → Prop) : ∀ (xs : List α) (k : Nat) (s : S), P k s →
    (∀ i x s, xs[i]? = some x → P (k + i) s → ∃ s1 s2, g (.d (en x)) s = some s1 ∧ (b s1 = some (.nx s2) ∨ b s1 = some (.ct s2)) ∧ P (k + i + 1) s2) → ∃ s', loopM g b (xs.map en) s = some (.nx s') ∧ P (k + xs.length) s'
  | [], k, s, h0, _ => ⟨s, rfl, h0⟩
  | d :: r, k, s, h0, h => by
    obtain ⟨s1, s2, h1, h2, h3⟩ := h 0 d s rfl h0
    obtain ⟨s', e, q⟩ := loopT P r (k + 1) s2 h3 fun i x t hi ht => by
      have := h (i + 1) x t (by simpa using hi) (by rw [show k + (i + 1) = k + 1 + i by omega]; exact ht)
      rw [show k + (i + 1) + 1 = k + 1 + i + 1 by omega] at this
      exact this
    refine ⟨s', ?_, by rw [List.length_cons, show k + (r.length + 1) = k + 1 + r.length by omega]; exact q⟩
    rw [List.map_cons]
    unfold loopM
    rw [h1]
    dsimp only
    rcases h2 with h2 | h2
    · rw [h2]; exact e
    · rw [h2]; exact e
theorem forT {α : Type} {im : IM} {g : GM} {b : SM} {s : S} {o1 : List MO} (en : α → D) (xs : List α) (P : Nat → S → Prop) (hi : im s = some (xs.map en, o1)) (h0 : P 0 (s.on o1))
    (h : ∀ i x s, xs[i]? = some x → P i s → ∃ s1 s2, g (.d (en x)) s = some s1 ∧ (b s1 = some (.nx s2) ∨ b s1 = some (.ct s2)) ∧ P (i + 1) s2) : ∃ s', mFor im g b s = some (.nx s') ∧ P xs.length s' := by
  unfold mFor
  rw [hi]
  obtain ⟨s', e, q⟩ := loopT P xs 0 (s.on o1) h0 fun i d t hi ht => by
    rw [Nat.zero_add] at ht ⊢
    exact h i d t hi ht
  exact ⟨s', e, by simpa using q⟩
theorem loopF {α β : Type} {g : GM} {b : SM} {en : α → D} (R : β → S → Prop) (f : β → α → β) : ∀ (xs : List α) (a : β) (s : S), R a s →
    (∀ x ∈ xs, ∀ a s, R a s → ∃ s1 s2, g (.d (en x)) s = some s1 ∧ (b s1 = some (.nx s2) ∨ b s1 = some (.ct s2)) ∧ R (f a x) s2) → ∃ s', loopM g b (xs.map en) s = some (.nx s') ∧ R (xs.foldl f a) s'
  | [], a, s, h0, _ => ⟨s, rfl, h0⟩
  | d :: r, a, s, h0, h => by
    obtain ⟨s1, s2, h1, h2, h3⟩ := h d List.mem_cons_self a s h0
    obtain ⟨s', e, q⟩ := loopF R f r (f a d) s2 h3 fun x hx => h x (List.mem_cons_of_mem _ hx)
    refine ⟨s', ?_, q⟩
    rw [List.map_cons]
    unfold loopM
    rw [h1]
    dsimp only
    rcases h2 with h2 | h2
    · rw [h2]; exact e
    · rw [h2]; exact e
theorem forF {α β : Type} {im : IM} {g : GM} {b : SM} {s : S} {o1 : List MO} (en : α → D) (xs : List α) (R : β → S → Prop) (f : β → α → β) (a : β) (hi : im s = some (xs.map en, o1)) (h0 : R a (s.on o1))
    (h : ∀ x ∈ xs, ∀ a s, R a s → ∃ s1 s2, g (.d (en x)) s = some s1 ∧ (b s1 = some (.nx s2) ∨ b s1 = some (.ct s2)) ∧ R (f a x) s2) : ∃ s', mFor im g b s = some (.nx s') ∧ R (xs.foldl f a) s' := by
  unfold mFor
  rw [hi]
  exact loopF R f xs a (s.on o1) h0 h
theorem seq_nx {a b : SM} {s s1 : S} {r : Option Out} (h : a s = some (.nx s1)) (k : b s1 = r) : mSeq a b s = r := by
  unfold mSeq; rw [h]; exact k
theorem dc_loopT {g : GM} {c : TM} {ek ev : EM} {τ : List (Option SV)} {o0 : List MO} {f : Str → D} : ∀ (rest done : List Str), (done ++ rest).Nodup → done.length + rest.length ≤ 100000 →
    (∀ x ∈ rest, ∀ acc : List (Key × D), ∃ s2 : S, g (.d (.str x)) ⟨τ, o0 ++ [.k acc]⟩ = some s2 ∧ s2.o = o0 ++ [.k acc] ∧ c s2 = some (true, o0 ++ [.k acc]) ∧ ek s2 = some (.d (.str x), o0 ++ [.k acc]) ∧ ev s2 = some (.d (f x), o0 ++ [.k acc])) →
    dcLoop o0.length g c ek ev τ (rest.map .str) (o0 ++ [.k (done.map fun x => (.inr x, f x))]) = some (o0 ++ [.k ((done ++ rest).map fun x => (.inr x, f x))])
  | [], done, _, _, _ => by simp [dcLoop]
  | x :: r, done, nd, hl, h => by
    obtain ⟨⟨σ2, o2⟩, h1, h0, h2, h3, h4⟩ := h x List.mem_cons_self (done.map fun x => (.inr x, f x))
    simp only at h0
    subst h0
    simp only [List.length_cons] at hl
    have e1 : (o0 ++ [MO.k (done.map fun x => (.inr x, f x))])[o0.length]? = some (.k (done.map fun x => (.inr x, f x))) := by rw [List.getElem?_append_right (Nat.le_refl _)]; simp
    have nd1 : done.Nodup := (List.nodup_append.mp nd).1
    have nx : x ∉ done := fun hx => (List.nodup_append.mp nd).2.2 x hx x List.mem_cons_self rfl
    have mk : (done.map fun x => ((Sum.inr x : Key), f x)).map (·.1) = done.map .inr := by rw [List.map_map]; rfl
    rw [List.map_cons]
    unfold dcLoop
    rw [h1]
    dsimp only
    rw [h2]
    dsimp only
    rw [show (S.on ⟨σ2, o0 ++ [.k (done.map fun x => (.inr x, f x))]⟩ (o0 ++ [.k (done.map fun x => (.inr x, f x))])) = ⟨σ2, o0 ++ [.k (done.map fun x => (.inr x, f x))]⟩ from rfl, h3]
    dsimp only
    rw [show (S.on ⟨σ2, o0 ++ [.k (done.map fun x => (.inr x, f x))]⟩ (o0 ++ [.k (done.map fun x => (.inr x, f x))])) = ⟨σ2, o0 ++ [.k (done.map fun x => (.inr x, f x))]⟩ from rfl, h4]
    dsimp only
    rw [show toKey (.str x) = some (.inr x) from rfl, e1]
    dsimp only
    rw [if_pos ⟨by rw [List.length_map]; omega, by rw [mk]; exact nd_inr nd1⟩, putD_new (by rw [mk]; intro hm; obtain ⟨y, hy, e⟩ := List.mem_map.mp hm; cases e; exact nx hy)]
    have e2 : (o0 ++ [MO.k (done.map fun x => (.inr x, f x))]).set o0.length (.k ((done.map fun x => (.inr x, f x)) ++ [(.inr x, f x)])) = o0 ++ [.k ((done ++ [x]).map fun x => (.inr x, f x))] := by
      rw [List.set_append_right _ _ (Nat.le_refl _)]
      simp
    rw [e2, dc_loopT r (done ++ [x]) (by rw [List.append_assoc]; exact nd) (by rw [List.length_append]; simp; omega) fun y hy => h y (List.mem_cons_of_mem _ hy), List.append_assoc]
    rfl
theorem dcT {im : IM} {g : GM} {c : TM} {ek ev : EM} {vs : List Nat} {s : S} (xs : List Str) (f : Str → D) (hi : im s = some (xs.map .str, s.o)) (nd : xs.Nodup) (hl : xs.length ≤ 100000)
    (h : ∀ x ∈ xs, ∀ acc : List (Key × D), ∃ s2 : S, g (.d (.str x)) ⟨wipeS s.σ vs, s.o ++ [.k acc]⟩ = some s2 ∧ s2.o = s.o ++ [.k acc] ∧ c s2 = some (true, s.o ++ [.k acc]) ∧ ek s2 = some (.d (.str x), s.o ++ [.k acc]) ∧ ev s2 = some (.d (f x), s.o ++ [.k acc])) :
    mDc im g c ek ev vs s = some (.k (xs.map fun x => (.inr x, f x)), s.o) := by
  unfold mDc
  rw [hi]
  dsimp only
  have := dc_loopT xs [] (by simpa using nd) (by simpa using hl) h
  rw [List.map_nil, List.nil_append] at this
  rw [this]
  dsimp only
  rw [List.getElem?_append_right (Nat.le_refl _)]
  simp
end
end
end PL

namespace PF2
noncomputable section
open PySem PySem.Spec PyProof.Rows L2 RZ AP
structure DC2 where
  c0 : Int
  m1 : Int
  a1 : Int
  b1 : Int
  m2 : Int
  a2 : Int
  b2 : Int
  m3 : Int
  a3 : Int
  m4 : Int
  dv : Int
section
variable [Tbls]
def m__law_draw (k : DC2) : SM := (mSeq (mPut (mOp gAddU (mOp gIx (mVar 0) (mC (.str (Str.ofString "drawn")))) (mC (.int 1))) (mVar 0) (mC (.str (Str.ofString "drawn")))) (mSeq (mIfS (mTest (mOp gGtU (mOp gIx (mVar 0) (mC (.str (Str.ofString "left")))) (mC (.int 0)))) (mSeq (mAsg (mOp gMod (mCB gInt (mCons (mOp gIx (mVar 0) (mC (.str (Str.ofString "left")))) mNil)) (mVar 1)) (mgName 4)) (mSeq (mPut (mOp gDiv (mOp gIx (mVar 0) (mC (.str (Str.ofString "left")))) (mVar 1)) (mVar 0) (mC (.str (Str.ofString "left")))) (mRet (mVar 4)))) mNext) (mSeq (mPar 5 6 (mCons (mOp gIx (mVar 0) (mC (.str (Str.ofString "cells")))) (mCons (mOp gIx (mVar 0) (mC (.str (Str.ofString "spot")))) mNil))) (mSeq (mPut (mOp gAddU (mVar 6) (mC (.int 1))) (mVar 0) (mC (.str (Str.ofString "spot")))) (mSeq (mAsg (mIf (mTest (mOp gNe (mVar 5) (mLst mNil))) (mOp gIx (mVar 5) (mOp gMod (mCB gInt (mCons (mVar 6) mNil)) (mCB gLen (mCons (mVar 5) mNil)))) (mC (.int k.c0))) (mgName 2)) (mSeq (mIfS (mAnd (mTest (mOp gGeU (mVar 2) (mOp gPow (mC (.int 10)) (mC (.int 18))))) (mTest (mOp gLtU (mVar 6) (mCB gLen (mCons (mVar 5) mNil))))) (mSeq (mPut (mOp gDiv (mVar 2) (mVar 1)) (mVar 0) (mC (.str (Str.ofString "left")))) (mRet (mOp gMod (mCB gInt (mCons (mVar 2) mNil)) (mVar 1)))) mNext) (mSeq (mAsg (mOp gMod (mCB gInt (mCons (mOp gAddU (mOp gAddU (mOp gMod (mCB gInt (mCons (mVar 2) mNil)) (mC (.int k.m1))) (mOp gMul (mC (.int k.a1)) (mOp gIx (mVar 0) (mC (.str (Str.ofString "drawn")))))) (mC (.int k.b1))) mNil)) (mC (.int k.m2))) (mgName 3)) (mSeq (mAsg (mOp gMod (mCB gInt (mCons (mOp gAddU (mOp gAddU (mOp gMul (mVar 3) (mVar 3)) (mOp gMul (mC (.int k.a2)) (mOp gIx (mVar 0) (mC (.str (Str.ofString "drawn")))))) (mC (.int k.b2))) mNil)) (mC (.int k.m3))) (mgName 3)) (mRet (mOp gMod (mCB gInt (mCons (mOp gDiv (mOp gMod (mCB gInt (mCons (mOp gAddU (mOp gMul (mVar 3) (mVar 3)) (mOp gMul (mC (.int k.a3)) (mVar 3))) mNil)) (mC (.int k.m4))) (mC (.int k.dv))) mNil)) (mVar 1)))))))))))
def m__law_any (k : DC2) : SM := (mRet (mOp gIx (mVar 1) (mCallF 2 (runF 7 (m__law_draw k)) (mCons (mVar 0) (mCons (mCB gLen (mCons (mVar 1) mNil)) mNil)))))
def ml__law_names_0 : EM := (mLst (mCons (mC (.str (Str.ofString "a"))) (mCons (mC (.str (Str.ofString "aa"))) (mCons (mC (.str (Str.ofString "aaa"))) (mCons (mC (.str (Str.ofString "ab"))) (mCons (mC (.str (Str.ofString "b"))) (mCons (mC (.str (Str.ofString "ba"))) (mCons (mC (.str (Str.ofString "zzzzzzzz"))) (mCons (mC (.str (Str.ofString "zzzzzzzy"))) (mCons (mC (.str (Str.ofString "z"))) (mCons (mC (.str (Str.ofString "zz"))) (mCons (mC (.str (Str.ofString "abcdefgh"))) (mCons (mC (.str (Str.ofString "y"))) mNil)))))))))))))
def ml__law_names_1 : EM := (mLst (mCons (mC (.str (Str.ofString "houses"))) (mCons (mC (.str (Str.ofString "none"))) (mCons (mC (.str (Str.ofString "net"))) (mCons (mC (.str (Str.ofString "wire"))) (mCons (mC (.str (Str.ofString "piece"))) (mCons (mC (.str (Str.ofString "give"))) (mCons (mC (.str (Str.ofString "lose"))) (mCons (mC (.str (Str.ofString "lay"))) (mCons (mC (.str (Str.ofString "all"))) (mCons (mC (.str (Str.ofString "short"))) (mCons (mC (.str (Str.ofString "going"))) (mCons (mC (.str (Str.ofString "on"))) mNil)))))))))))))
def fb__law_names_2 (k : DC2) : SM := (mApp (mVar 5) (mPopI (mVar 4) (mCallF 2 (runF 7 (m__law_draw k)) (mCons (mVar 0) (mCons (mCB gLen (mCons (mVar 4) mNil)) mNil)))))
def fl__law_names_3 (k : DC2) : SM := (mFor (mRange (mCons (mVar 1) mNil)) (mgName 3) (fb__law_names_2 k))
def m__law_names (k : DC2) : SM := (mSeq (mOwn (mLstN (mCons (mCB gListW (mCons (mC (.str (Str.ofString "abcdefghijkl"))) mNil)) mNil)) 2) (mSeq (mApp (mVar 2) ml__law_names_0) (mSeq (mApp (mVar 2) ml__law_names_1) (mSeq (mParOO 4 5 (mListN (mCallFT 2 (runF 2 (m__law_any k)) (mCons (mVar 0) (mCons (mVar 2) mNil)))) (mLstN mNil)) (mSeq (fl__law_names_3 k) (mRet (mVar 5)))))))
def fb__law_grid_0 (k : DC2) : SM := (mSeq (mAsg (mCallF 2 (runF 7 (m__law_draw k)) (mCons (mVar 0) (mCons (mCB gLen (mCons (mVar 3) mNil)) mNil))) (mgName 6)) (mSeq (mAsg (mTup (mCons (mOp gIx (mVar 3) (mVar 6)) (mCons (mOp gIx (mVar 3) (mOp gSub (mOp gSub (mVar 6) (mC (.int 1))) (mCallF 2 (runF 7 (m__law_draw k)) (mCons (mVar 0) (mCons (mOp gSub (mCB gLen (mCons (mVar 3) mNil)) (mC (.int 1))) mNil))))) mNil))) (mgName 7)) (mSeq (mAsg (mCallF 2 (runF 7 (m__law_draw k)) (mCons (mVar 0) (mCons (mC (.int 6)) mNil))) (mgName 8)) (mSeq (mIfS (mAnd (mTest (mOp gNe (mVar 4) (mLst mNil))) (mTest (mOp gEq (mVar 8) (mC (.int 0))))) (mAsg (mCallFT 2 (runF 2 (m__law_any k)) (mCons (mVar 0) (mCons (mVar 4) mNil))) (mgName 7)) mNext) (mSeq (mIfS (mAnd (mTest (mOp gNe (mVar 4) (mLst mNil))) (mTest (mOp gEq (mVar 8) (mC (.int 1))))) (mAsg (mRev (mCallFT 2 (runF 2 (m__law_any k)) (mCons (mVar 0) (mCons (mVar 4) mNil)))) (mgName 7)) mNext) (mApp (mVar 4) (mVar 7)))))))
def fl__law_grid_1 (k : DC2) : SM := (mFor (mRange (mCons (mIf (mTest (mOp gGtU (mCB gLen (mCons (mVar 3) mNil)) (mC (.int 1)))) (mCallF 2 (runF 7 (m__law_draw k)) (mCons (mVar 0) (mCons (mOp gAddU (mVar 2) (mC (.int 1))) mNil))) (mC (.int 0))) mNil)) (mgName 5) (fb__law_grid_0 k))
def m__law_grid (k : DC2) : SM := (mSeq (mAsg (mIf (mTest (mOp gGtU (mCallF 2 (runF 7 (m__law_draw k)) (mCons (mVar 0) (mCons (mC (.int 20)) mNil))) (mC (.int 0)))) (mCallF 2 (runF 6 (m__law_names k)) (mCons (mVar 0) (mCons (mOp gAddU (mC (.int 2)) (mCallF 2 (runF 7 (m__law_draw k)) (mCons (mVar 0) (mCons (mOp gSub (mVar 1) (mC (.int 1))) mNil)))) mNil))) (mCallF 2 (runF 6 (m__law_names k)) (mCons (mVar 0) (mCons (mC (.int 1)) mNil)))) (mgName 3)) (mSeq (mOwn (mLstN mNil) 4) (mSeq (fl__law_grid_1 k) (mRet (mTup (mCons (mCB gTuple (mCons (mCB gSortedX (mCons (mVar 3) mNil)) mNil)) (mCons (mCB gTuple (mCons (mVar 4) mNil)) mNil)))))))
def ml__law_stock_0 : EM := (mLst (mCons (mC (.int 1)) (mCons (mC (.int 1)) (mCons (mC (.int 1)) (mCons (mC (.int 2)) (mCons (mC (.int 3)) mNil))))))
def lc__law_stock_1 (k : DC2) : NM := (mLc (mRange (mCons (mCallF 2 (runF 2 (m__law_any k)) (mCons (mVar 0) (mCons ml__law_stock_0 mNil))) mNil)) (mgName 6) mYes (mCallF 2 (runF 2 (m__law_any k)) (mCons (mVar 0) (mCons (mOp gIx (mVar 1) (mC (.int 0))) mNil))) [6])
def fb__law_stock_2 (k : DC2) : SM := (mSeq (mAsg (mDat (lc__law_stock_1 k)) (mgName 5)) (mApp (mVar 3) (mCB gTuple (mCons (mCB gSSx (mCons (mVar 5) mNil)) mNil))))
def fl__law_stock_3 (k : DC2) : SM := (mFor (mRange (mCons (mCallF 2 (runF 2 (m__law_any k)) (mCons (mVar 0) (mCons (mOp gAddU (mLst (mCons (mC (.int 0)) mNil)) (mOp gMulU (mLstRg2 (mC (.int 1)) (mOp gAddU (mVar 2) (mC (.int 1)))) (mC (.int 4)))) mNil))) mNil)) (mgName 4) (fb__law_stock_2 k))
def m__law_stock (k : DC2) : SM := (mSeq (mOwn (mLstN mNil) 3) (mSeq (fl__law_stock_3 k) (mRet (mCB gTuple (mCons (mVar 3) mNil)))))
def fb__law_has_0 : SM := (mIfS (mAnd (mTest (mOp gEq (mOp gIx (mVar 2) (mVar 8)) (mVar 4))) (mAnd (mTest (mOp gIn (mOp gIx (mVar 9) (mC (.int 0))) (mVar 6))) (mTest (mOp gNotIn (mOp gIx (mVar 9) (mC (.int 1))) (mVar 6))))) (mApp (mVar 6) (mOp gIx (mVar 9) (mC (.int 1)))) mNext)
def fl__law_has_1 : SM := (mFor (mEnum (mCons (mOp gIx (mVar 0) (mC (.int 1))) mNil)) (mgTup 2 (mgCons (mgName 8) (mgCons (mgName 9) mgNil))) fb__law_has_0)
def fb__law_has_2 : SM := fl__law_has_1
def fl__law_has_3 : SM := (mFor (mRange (mCons (mCB gLen (mCons (mOp gIx (mVar 0) (mC (.int 0))) mNil)) mNil)) (mgName 7) fb__law_has_2)
def fb__law_has_4 : SM := (mSeq (mOwn (mListN (mVar 5)) 6) (mSeq fl__law_has_3 (mApp (mVar 3) (mCB gTuple (mCons (mCB gSSx (mCons (mVar 6) mNil)) mNil)))))
def fl__law_has_5 : SM := (mFor (mEnum (mCons (mVar 1) mNil)) (mgTup 2 (mgCons (mgName 4) (mgCons (mgName 5) mgNil))) fb__law_has_4)
def m__law_has : SM := (mSeq (mOwn (mLstN mNil) 3) (mSeq fl__law_has_5 (mRet (mCB gTuple (mCons (mVar 3) mNil)))))
def lc__law_plan_0 : NM := (mLc (mRange (mCons (mCB gLen (mCons (mVar 2) mNil)) mNil)) (mgName 12) (mTest (mOp gIn (mVar 10) (mOp gIx (mVar 9) (mVar 12)))) (mVar 12) [12])
def lc__law_plan_1 : NM := (mLc (mAnyI (mVar 6)) (mgName 12) (mTest (mOp gNotIn (mVar 11) (mOp gIx (mVar 9) (mVar 12)))) (mVar 12) [12])
def fb__law_plan_2 (k : DC2) : SM := (mSeq (mAsg (mTup (mCons (mCallF 2 (runF 7 (m__law_draw k)) (mCons (mVar 0) (mCons (mCB gLen (mCons (mOp gIx (mVar 1) (mC (.int 1))) mNil)) mNil))) (mCons (mCallU 3 (runP 10 m__law_has) (mCons (mVar 1) (mCons (mVar 2) (mCons (mVar 4) mNil)))) mNil))) (mgSeq 2 (mgCons (mgName 8) (mgCons (mgName 9) mgNil)))) (mSeq (mAsg (mOp gIx (mOp gIx (mVar 1) (mC (.int 1))) (mVar 8)) (mgSeq 2 (mgCons (mgName 10) (mgCons (mgName 11) mgNil)))) (mSeq (mAsg (mDat lc__law_plan_0) (mgName 6)) (mSeq (mAsg (mDat lc__law_plan_1) (mgName 7)) (mSeq (mIfS (mTest (mOp gGtU (mCallF 2 (runF 7 (m__law_draw k)) (mCons (mVar 0) (mCons (mC (.int 4)) mNil))) (mC (.int 0)))) (mAsg (mVar 7) (mgName 6)) mNext) (mIfS (mAnd (mTest (mOp gEq (mOp gIx (mVar 4) (mVar 8)) (mUn gNeg (mC (.int 1))))) (mTest (mOp gNe (mVar 6) (mLst mNil)))) (mPutL (mCallF 2 (runF 2 (m__law_any k)) (mCons (mVar 0) (mCons (mVar 6) mNil))) (mVar 4) (mVar 8)) mNext))))))
def fl__law_plan_3 (k : DC2) : SM := (mFor (mRange (mCons (mIf (mTest (mOp gNe (mOp gIx (mVar 1) (mC (.int 1))) (mTup mNil))) (mVar 3) (mC (.int 0))) mNil)) (mgName 5) (fb__law_plan_2 k))
def m__law_plan (k : DC2) : SM := (mSeq (mOwn (mRepN (mLst (mCons (mUn gNeg (mC (.int 1))) mNil)) (mCB gLen (mCons (mOp gIx (mVar 1) (mC (.int 1))) mNil))) 4) (mSeq (fl__law_plan_3 k) (mRet (mCB gTuple (mCons (mVar 4) mNil)))))
def m__law_case (k : DC2) : SM := (mSeq (mAsg (mCallF 3 (runF 9 (m__law_grid k)) (mCons (mVar 0) (mCons (mVar 1) (mCons (mVar 2) mNil)))) (mgName 4)) (mSeq (mAsg (mCallF 3 (runF 7 (m__law_stock k)) (mCons (mVar 0) (mCons (mVar 4) (mCons (mVar 3) mNil)))) (mgName 5)) (mSeq (mAsg (mCallF 2 (runF 2 (m__law_any k)) (mCons (mVar 0) (mCons (mLst (mCons (mC (.int 0)) (mCons (mC (.int 2)) (mCons (mC (.int 4)) (mCons (mCB gLen (mCons (mOp gIx (mVar 4) (mC (.int 1))) mNil)) (mCons (mOp gMul (mC (.int 2)) (mCB gLen (mCons (mOp gIx (mVar 4) (mC (.int 1))) mNil))) mNil)))))) mNil))) (mgName 6)) (mRet (mTup (mCons (mVar 4) (mCons (mVar 5) (mCons (mCallF 4 (runF 13 (m__law_plan k)) (mCons (mVar 0) (mCons (mVar 4) (mCons (mVar 5) (mCons (mVar 6) mNil))))) mNil))))))))
end
end
end PF2

namespace H18
noncomputable section
open PySem PySem.Spec PyProof.Rows L2 RZ AP
variable [Tbls]
abbrev FUEL : Nat := 200
def top (i : Nat) : Stmt := PySem.Challenge.pw_allpieces_k18_whole_idle_wires.main.body.getD i (.Pass ⟨0, 0, 0, 0⟩)
def clsBody (s : Stmt) (i : Nat) : Stmt := (match s with | .ClassDef _ _ _ b .. => b | _ => []).getD i (.Pass ⟨0, 0, 0, 0⟩)
abbrev FnP (K : PySem.W.Frag) (x : Str) (st : Stmt) (f : Addr) (fd : FuncData) : Prop := FunD K x x (defArgs st) (defBody st) (defScope st) [] [] f fd
abbrev s_is_integer : Stmt := top 7
abbrev N_is_integer : List Str := ["thing"]
theorem sc_is_integer : FnScope N_is_integer ["thing"] (defScope s_is_integer) := ⟨rfl, rfl, rfl, by decide +kernel, rfl, by decide +kernel, by decide +kernel⟩
def t_is_integer (K : PySem.W.Frag) : TS := (tRet (tAndT K (tCB (rIsi K) (tCons (tVar 0) (tCons (tC (.ty (Ty.nm .int))) tNil))) (tNotT K (tCB (rIsi K) (tCons (tVar 0) (tCons (tC (.ty (Ty.nm .bool))) tNil))))))
abbrev m_is_integer : SM := PD.m_is_integer
theorem ss_is_integer [Gd] (K : PySem.W.Frag) : SnS (t_is_integer K) m_is_integer := (ss_ret (sn_andV (sn_isi sn_var) (sn_notV (sn_isi sn_var))))
abbrev s_is_pair : Stmt := top 8
abbrev N_is_pair : List Str := ["thing"]
theorem sc_is_pair : FnScope N_is_pair ["thing"] (defScope s_is_pair) := ⟨rfl, rfl, rfl, by decide +kernel, rfl, by decide +kernel, by decide +kernel⟩
def t_is_pair (K : PySem.W.Frag) : TS := (tRet (tAndT K (tCB (rIsi K) (tCons (tVar 0) (tCons (tC (.ty (Ty.nm .tuple))) tNil))) (tOp (rEqU K) (tCB (rLenA K) (tCons (tVar 0) tNil)) (tC (.int 2)))))
abbrev m_is_pair : SM := PD.m_is_pair
theorem ss_is_pair [Gd] (K : PySem.W.Frag) : SnS (t_is_pair K) m_is_pair := (ss_ret (sn_andV (sn_isi sn_var) (sn_op r2_eqU (sn_cb rc_len (sn_cons sn_var sn_nil)) sn_int)))
abbrev s_is_ascending : Stmt := top 9
abbrev N_is_ascending : List Str := ["values", "low", "high"]
theorem sc_is_ascending : FnScope N_is_ascending ["values"] (defScope s_is_ascending) := ⟨rfl, rfl, rfl, by decide +kernel, rfl, by decide +kernel, by decide +kernel⟩
def t_is_ascending (K : PySem.W.Frag) : TS := (tRet (tCB (rAll K) (tCons (tLc (iZipX K (tCons (tVar 0) (tCons (tSl (rSlU K) (tVar 0) (tPart (tC (.int 1))) tNoPart) tNil))) (gTup K 2 (gCons (gName 1) (gCons (gName 2) gNil))) tYes (tOp (rLtW K) (tVar 1) (tVar 2)) [1, 2]) tNil)))
abbrev m_is_ascending : SM := PD.m_is_ascending
theorem ss_is_ascending [Gd] (K : PySem.W.Frag) : SnS (t_is_ascending K) m_is_ascending := (ss_ret (sn_cb rc_all (sn_cons (sn_dat (sn_lc (si_zipX (sn_cons sn_var (sn_cons (sn_sl rs_U sn_var (sn_part sn_int) sn_nopart) sn_nil))) (sg_tup (sgs_cons sg_name (sgs_cons sg_name sgs_nil))) (gk_tup (gks_cons (gk_name (by decide)) (gks_cons (gk_name (by decide)) gks_nil))) sn_yes (sn_op r2_ltW sn_var sn_var))) sn_nil)))
abbrev s_is_name : Stmt := top 10
abbrev N_is_name : List Str := ["thing", "letter"]
theorem sc_is_name : FnScope N_is_name ["thing"] (defScope s_is_name) := ⟨rfl, rfl, rfl, by decide +kernel, rfl, by decide +kernel, by decide +kernel⟩
def t_is_name (K : PySem.W.Frag) : TS := (tSeq (tIfS (tOr (tNot (tTr K (tCB (rIsi K) (tCons (tVar 0) (tCons (tC (.ty (Ty.nm .str))) tNil))))) (tNot (tTest (tChain (rLeW K) (rLeW K) (tC (.int 1)) (tCB (rLenA K) (tCons (tVar 0) tNil)) (tC (.int 8)))))) (tRet (tC (.bl false))) tNext) (tRet (tCB (rAll K) (tCons (tLc (iAny K (tVar 0)) (gName 1) tYes (tChain (rLeW K) (rLeW K) (tC (.str (Str.ofString "a"))) (tVar 1) (tC (.str (Str.ofString "z")))) [1]) tNil))))
abbrev m_is_name : SM := PD.m_is_name
theorem ss_is_name [Gd] (K : PySem.W.Frag) : SnS (t_is_name K) m_is_name := (ss_seq (ss_if (sn_or (sn_not (sn_tr (sn_isi sn_var))) (sn_not (sn_test (sn_chain r2_leW r2_leW sn_int (sn_cb rc_len (sn_cons sn_var sn_nil)) sn_int)))) (ss_ret sn_bl) ss_next) (ss_ret (sn_cb rc_all (sn_cons (sn_dat (sn_lc (si_any sn_var) sg_name (gk_name (by decide)) sn_yes (sn_chain r2_leW r2_leW sn_str sn_var sn_str))) sn_nil))))
abbrev s_is_name_pair : Stmt := top 11
abbrev N_is_name_pair : List Str := ["thing"]
theorem sc_is_name_pair : FnScope N_is_name_pair ["thing"] (defScope s_is_name_pair) := ⟨rfl, rfl, rfl, by decide +kernel, rfl, by decide +kernel, by decide +kernel⟩
def t_is_name_pair (K : PySem.W.Frag) : TS := (tRet (tAndT K (tCall (spP 1 (runP 1 m_is_pair)) [] E0 (tCons (tVar 0) tNil)) (tAndT K (tCall (spP 1 (runP 2 m_is_name)) [] E0 (tCons (tOp (rIxA K) (tVar 0) (tC (.int 0))) tNil)) (tCall (spP 1 (runP 2 m_is_name)) [] E0 (tCons (tOp (rIxA K) (tVar 0) (tC (.int 1))) tNil)))))
abbrev m_is_name_pair : SM := PD.m_is_name_pair
theorem ss_is_name_pair [Gd] (K : PySem.W.Frag) : SnS (t_is_name_pair K) m_is_name_pair := (ss_ret (sn_andV (sn_call (sn_cons sn_var sn_nil)) (sn_andV (sn_call (sn_cons (sn_op r2_ix sn_var sn_int) sn_nil)) (sn_call (sn_cons (sn_op r2_ix sn_var sn_int) sn_nil)))))
abbrev s_is_houses : Stmt := top 12
abbrev N_is_houses : List Str := ["thing", "name"]
theorem sc_is_houses : FnScope N_is_houses ["thing"] (defScope s_is_houses) := ⟨rfl, rfl, rfl, by decide +kernel, rfl, by decide +kernel, by decide +kernel⟩
def t_is_houses (K : PySem.W.Frag) : TS := (tSeq (tIfS (tOr (tNot (tTr K (tCB (rIsi K) (tCons (tVar 0) (tCons (tC (.ty (Ty.nm .tuple))) tNil))))) (tNot (tTr K (tVar 0)))) (tRet (tC (.bl false))) tNext) (tRet (tAndT K (tCB (rAll K) (tCons (tLc (iAny K (tVar 0)) (gName 1) tYes (tCall (spP 1 (runP 2 m_is_name)) [] E0 (tCons (tVar 1) tNil)) [1]) tNil)) (tCall (spP 1 (runP 3 m_is_ascending)) [] E0 (tCons (tVar 0) tNil)))))
abbrev m_is_houses : SM := PD.m_is_houses
theorem ss_is_houses [Gd] (K : PySem.W.Frag) : SnS (t_is_houses K) m_is_houses := (ss_seq (ss_if (sn_or (sn_not (sn_tr (sn_isi sn_var))) (sn_not (sn_tr sn_var))) (ss_ret sn_bl) ss_next) (ss_ret (sn_andV (sn_cb rc_all (sn_cons (sn_dat (sn_lc (si_any sn_var) sg_name (gk_name (by decide)) sn_yes (sn_call (sn_cons sn_var sn_nil)))) sn_nil)) (sn_call (sn_cons sn_var sn_nil)))))
abbrev s_is_wire : Stmt := top 13
abbrev N_is_wire : List Str := ["thing"]
theorem sc_is_wire : FnScope N_is_wire ["thing"] (defScope s_is_wire) := ⟨rfl, rfl, rfl, by decide +kernel, rfl, by decide +kernel, by decide +kernel⟩
def t_is_wire (K : PySem.W.Frag) : TS := (tRet (tAndT K (tCall (spP 1 (runP 1 m_is_name_pair)) [] E0 (tCons (tVar 0) tNil)) (tOp (rNeU K) (tOp (rIxA K) (tVar 0) (tC (.int 0))) (tOp (rIxA K) (tVar 0) (tC (.int 1))))))
abbrev m_is_wire : SM := PD.m_is_wire
theorem ss_is_wire [Gd] (K : PySem.W.Frag) : SnS (t_is_wire K) m_is_wire := (ss_ret (sn_andV (sn_call (sn_cons sn_var sn_nil)) (sn_op r2_neU (sn_op r2_ix sn_var sn_int) (sn_op r2_ix sn_var sn_int))))
abbrev s_is_set_among : Stmt := top 14
abbrev N_is_set_among : List Str := ["thing", "houses", "house"]
theorem sc_is_set_among : FnScope N_is_set_among ["thing", "houses"] (defScope s_is_set_among) := ⟨rfl, rfl, rfl, by decide +kernel, rfl, by decide +kernel, by decide +kernel⟩
def t_is_set_among (K : PySem.W.Frag) : TS := (tRet (tAndT K (tCall (spP 1 (runP 2 m_is_houses)) [] E0 (tCons (tVar 0) tNil)) (tCB (rAll K) (tCons (tLc (iAny K (tVar 0)) (gName 2) tYes (tOp (rInA K fun b => b) (tVar 2) (tVar 1)) [2]) tNil))))
abbrev m_is_set_among : SM := PD.m_is_set_among
theorem ss_is_set_among [Gd] (K : PySem.W.Frag) : SnS (t_is_set_among K) m_is_set_among := (ss_ret (sn_andV (sn_call (sn_cons sn_var sn_nil)) (sn_cb rc_all (sn_cons (sn_dat (sn_lc (si_any sn_var) sg_name (gk_name (by decide)) sn_yes (sn_op (r2_in (f := fun b => b)) sn_var sn_var))) sn_nil))))
abbrev s_is_wire_among : Stmt := top 15
abbrev N_is_wire_among : List Str := ["thing", "houses"]
theorem sc_is_wire_among : FnScope N_is_wire_among ["thing", "houses"] (defScope s_is_wire_among) := ⟨rfl, rfl, rfl, by decide +kernel, rfl, by decide +kernel, by decide +kernel⟩
def t_is_wire_among (K : PySem.W.Frag) : TS := (tRet (tAndT K (tCall (spP 1 (runP 1 m_is_wire)) [] E0 (tCons (tVar 0) tNil)) (tAndT K (tOp (rInA K fun b => b) (tOp (rIxA K) (tVar 0) (tC (.int 0))) (tVar 1)) (tOp (rInA K fun b => b) (tOp (rIxA K) (tVar 0) (tC (.int 1))) (tVar 1)))))
abbrev m_is_wire_among : SM := PD.m_is_wire_among
theorem ss_is_wire_among [Gd] (K : PySem.W.Frag) : SnS (t_is_wire_among K) m_is_wire_among := (ss_ret (sn_andV (sn_call (sn_cons sn_var sn_nil)) (sn_andV (sn_op (r2_in (f := fun b => b)) (sn_op r2_ix sn_var sn_int) sn_var) (sn_op (r2_in (f := fun b => b)) (sn_op r2_ix sn_var sn_int) sn_var))))
abbrev s_lets_net : Stmt := top 17
abbrev N_lets_net : List Str := ["thing", "known", "houses", "wires", "k", "wire", "house"]
theorem sc_lets_net : FnScope N_lets_net ["thing"] (defScope s_lets_net) := ⟨rfl, rfl, rfl, by decide +kernel, rfl, by decide +kernel, by decide +kernel⟩
def t_lets_net (K : PySem.W.Frag) : TS := (tSeq (tIfS (tNot (tTr K (tCall (spP 1 (runP 1 m_is_pair)) [] E0 (tCons (tVar 0) tNil)))) tNever tNext) (tSeq (tAsg (tVar 0) (gEi K 2 (gCons (gName 2) (gCons (gName 3) gNil)))) (tSeq (tIfS (tNot (tTr K (tCall (spP 1 (runP 2 m_is_houses)) [] E0 (tCons (tVar 2) tNil)))) tNever tNext) (tSeq (tIfS (tNot (tTr K (tCB (rIsi K) (tCons (tVar 3) (tCons (tC (.ty (Ty.nm .tuple))) tNil))))) tNever tNext) (tSeq (tAsg (tDc (iAny K (tVar 2)) (gName 6) tYes (tVar 6) (tC (.bl true)) [6]) (gName 1)) (tSeq (tFor (iEnA K (tCons (tVar 3) tNil)) (gTup K 2 (gCons (gName 4) (gCons (gName 5) gNil))) (tIfS (tNot (tTr K (tCall (spP 2 (runP 2 m_is_wire_among)) [] E0 (tCons (tVar 5) (tCons (tVar 1) tNil))))) tNever tNext)) (tRet (tCB (rLenA K) (tCons (tVar 3) tNil)))))))))
abbrev m_lets_net : SM := PD.m_lets_net
theorem ss_lets_net [Gd] (K : PySem.W.Frag) : SnS (t_lets_net K) m_lets_net := (ss_seq (ss_if (sn_not (sn_tr (sn_call (sn_cons sn_var sn_nil)))) ss_never ss_next) (ss_seq (ss_asg sn_var (sg_seq (sgs_cons sg_name (sgs_cons sg_name sgs_nil)))) (ss_seq (ss_if (sn_not (sn_tr (sn_call (sn_cons sn_var sn_nil)))) ss_never ss_next) (ss_seq (ss_if (sn_not (sn_tr (sn_isi sn_var))) ss_never ss_next) (ss_seq (ss_asg (sn_dat (sn_dc (si_any sn_var) sg_name (gk_name (by decide)) sn_yes sn_var sn_bl)) sg_name) (ss_seq (ss_for (si_enum (sn_cons sn_var sn_nil)) (sg_tup (sgs_cons sg_name (sgs_cons sg_name sgs_nil))) (ss_if (sn_not (sn_tr (sn_call (sn_cons sn_var (sn_cons sn_var sn_nil))))) ss_never ss_next)) (ss_ret (sn_cb rc_len (sn_cons sn_var sn_nil)))))))))
abbrev s_need_net : Stmt := top 19
abbrev N_need_net : List Str := ["net"]
theorem sc_need_net : FnScope N_need_net ["net"] (defScope s_need_net) := ⟨rfl, rfl, rfl, by decide +kernel, rfl, by decide +kernel, by decide +kernel⟩
def t_need_net (K : PySem.W.Frag) : TS := (tDrop (tCall (spP 1 (runP 7 m_lets_net)) [] E0 (tCons (tVar 0) tNil)))
abbrev m_need_net : SM := PD.m_need_net
theorem ss_need_net [Gd] (K : PySem.W.Frag) : SnS (t_need_net K) m_need_net := (ss_drop (sn_call (sn_cons sn_var sn_nil)))
abbrev s_lets_holders : Stmt := top 21
abbrev N_lets_holders : List Str := ["net", "thing", "known", "k", "houses", "house"]
theorem sc_lets_holders : FnScope N_lets_holders ["net", "thing"] (defScope s_lets_holders) := ⟨rfl, rfl, rfl, by decide +kernel, rfl, by decide +kernel, by decide +kernel⟩
def t_lets_holders (K : PySem.W.Frag) : TS := (tSeq (tDrop (tCall (spP 1 (runP 1 m_need_net)) [] E0 (tCons (tVar 0) tNil))) (tSeq (tIfS (tNot (tTr K (tCB (rIsi K) (tCons (tVar 1) (tCons (tC (.ty (Ty.nm .tuple))) tNil))))) tNever tNext) (tSeq (tAsg (tDc (iAny K (tOp (rIxA K) (tVar 0) (tC (.int 0)))) (gName 5) tYes (tVar 5) (tC (.bl true)) [5]) (gName 2)) (tSeq (tFor (iEnA K (tCons (tVar 1) tNil)) (gTup K 2 (gCons (gName 3) (gCons (gName 4) gNil))) (tIfS (tNot (tTr K (tCall (spP 2 (runP 3 m_is_set_among)) [] E0 (tCons (tVar 4) (tCons (tVar 2) tNil))))) tNever tNext)) (tRet (tCB (rLenA K) (tCons (tVar 1) tNil)))))))
abbrev m_lets_holders : SM := PD.m_lets_holders
theorem ss_lets_holders [Gd] (K : PySem.W.Frag) : SnS (t_lets_holders K) m_lets_holders := (ss_seq (ss_drop (sn_call (sn_cons sn_var sn_nil))) (ss_seq (ss_if (sn_not (sn_tr (sn_isi sn_var))) ss_never ss_next) (ss_seq (ss_asg (sn_dat (sn_dc (si_any (sn_op r2_ix sn_var sn_int)) sg_name (gk_name (by decide)) sn_yes sn_var sn_bl)) sg_name) (ss_seq (ss_for (si_enum (sn_cons sn_var sn_nil)) (sg_tup (sgs_cons sg_name (sgs_cons sg_name sgs_nil))) (ss_if (sn_not (sn_tr (sn_call (sn_cons sn_var (sn_cons sn_var sn_nil))))) ss_never ss_next)) (ss_ret (sn_cb rc_len (sn_cons sn_var sn_nil)))))))
abbrev s_need_holders : Stmt := top 23
abbrev N_need_holders : List Str := ["net", "holders"]
theorem sc_need_holders : FnScope N_need_holders ["net", "holders"] (defScope s_need_holders) := ⟨rfl, rfl, rfl, by decide +kernel, rfl, by decide +kernel, by decide +kernel⟩
def t_need_holders (K : PySem.W.Frag) : TS := (tDrop (tCall (spP 2 (runP 6 m_lets_holders)) [] E0 (tCons (tVar 0) (tCons (tVar 1) tNil))))
abbrev m_need_holders : SM := PD.m_need_holders
theorem ss_need_holders [Gd] (K : PySem.W.Frag) : SnS (t_need_holders K) m_need_holders := (ss_drop (sn_call (sn_cons sn_var (sn_cons sn_var sn_nil))))
abbrev s_comers_to : Stmt := top 25
abbrev N_comers_to : List Str := ["net", "held", "giving", "piece", "led", "found", "waiting", "house", "wire", "source", "target"]
theorem sc_comers_to : FnScope N_comers_to ["net", "held", "giving", "piece"] (defScope s_comers_to) := ⟨rfl, rfl, rfl, by decide +kernel, rfl, by decide +kernel, by decide +kernel⟩
def t_comers_to (K : PySem.W.Frag) : TS := (tSeq (tAsg (tLc (iEnA K (tCons (tOp (rIxA K) (tVar 0) (tC (.int 1))) tNil)) (gTup K 2 (gCons (gName 8) (gCons (gTup K 2 (gCons (gName 9) (gCons (gName 10) gNil))) gNil))) (tTest (tOp (rEqU K) (tOp (rIxA K) (tVar 2) (tVar 8)) (tVar 3))) (tTupF (tCons (tVar 8) (tCons (tVar 9) (tCons (tVar 10) tNil)))) [8, 9, 10]) (gName 4)) (tSeq (tAsg (tDc (iAny K (tVar 1)) (gName 7) tYes (tVar 7) (tUn rNeg (tC (.int 1))) [7]) (gName 5)) (tSeq (tAsg (tCB (rLstA K) (tCons (tVar 1) tNil)) (gName 6)) (tSeq (tWhile (tTr K (tVar 6)) (tSeq (tAsg (tBM0 K "list" rPop (tVar 6)) (gName 7)) (tFor (iAny K (tVar 4)) (gTup K 3 (gCons (gName 8) (gCons (gName 9) (gCons (gName 10) gNil)))) (tIfS (tAnd (tTest (tOp (rEqU K) (tVar 9) (tVar 7))) (tTest (tOp (rInA K fun b => !b) (tVar 10) (tVar 5)))) (tSeq (sDPut (tVar 5) (tVar 10) (tVar 8)) (tDrop (tBM K "list" rAppend (tVar 6) (tCons (tVar 10) tNil)))) tNext)))) (tRet (tVar 5))))))
abbrev m_comers_to : SM := PD.m_comers_to
theorem ss_comers_to [Gd] (K : PySem.W.Frag) : SnS (t_comers_to K) m_comers_to := (ss_seq (ss_asg (sn_dat (sn_lc (si_enum (sn_cons (sn_op r2_ix sn_var sn_int) sn_nil)) (sg_tup (sgs_cons sg_name (sgs_cons (sg_tup (sgs_cons sg_name (sgs_cons sg_name sgs_nil))) sgs_nil))) (gk_tup (gks_cons (gk_name (by decide)) (gks_cons (gk_tup (gks_cons (gk_name (by decide)) (gks_cons (gk_name (by decide)) gks_nil))) gks_nil))) (sn_test (sn_op r2_eqU (sn_op r2_ix sn_var sn_var) sn_var)) (sn_tup (sn_cons sn_var (sn_cons sn_var (sn_cons sn_var sn_nil)))))) sg_name) (ss_seq (ss_own (sn_dc (si_any sn_var) sg_name (gk_name (by decide)) sn_yes sn_var (sn_un r1_neg sn_int))) (ss_seq (ss_own (sn_listN sn_var)) (ss_seq (ss_while FUEL (sn_tr sn_var) (ss_seq (ss_asg (sn_pop sn_var) sg_name) (ss_for (si_any sn_var) (sg_tup (sgs_cons sg_name (sgs_cons sg_name (sgs_cons sg_name sgs_nil)))) (ss_if (sn_and (sn_test (sn_op r2_eqU sn_var sn_var)) (sn_test (sn_op (r2_in (f := fun b => !b)) sn_var sn_var))) (ss_seq (ss_put sn_var sn_var sn_var) (ss_app sn_var sn_var)) ss_next)))) (ss_ret sn_var)))))
abbrev s_comers : Stmt := top 26
abbrev N_comers : List Str := ["net", "holders", "giving", "piece", "held"]
theorem sc_comers : FnScope N_comers ["net", "holders", "giving"] (defScope s_comers) := ⟨rfl, rfl, rfl, by decide +kernel, rfl, by decide +kernel, by decide +kernel⟩
def t_comers (K : PySem.W.Frag) : TS := (tRet (tLc (iEnA K (tCons (tVar 1) tNil)) (gTup K 2 (gCons (gName 3) (gCons (gName 4) gNil))) tYes (tCall (spP 4 (runP 11 m_comers_to)) [] E0 (tCons (tVar 0) (tCons (tVar 4) (tCons (tVar 2) (tCons (tVar 3) tNil))))) [3, 4]))
abbrev m_comers : SM := PD.m_comers
theorem ss_comers [Gd] (K : PySem.W.Frag) : SnS (t_comers K) m_comers := (ss_ret (sn_dat (sn_lc (si_enum (sn_cons sn_var sn_nil)) (sg_tup (sgs_cons sg_name (sgs_cons sg_name sgs_nil))) (gk_tup (gks_cons (gk_name (by decide)) (gks_cons (gk_name (by decide)) gks_nil))) sn_yes (sn_call (sn_cons sn_var (sn_cons sn_var (sn_cons sn_var (sn_cons sn_var sn_nil))))))))
abbrev s_lets_giving : Stmt := top 28
abbrev N_lets_giving : List Str := ["net", "holders", "thing", "wires", "found", "k", "piece"]
theorem sc_lets_giving : FnScope N_lets_giving ["net", "holders", "thing"] (defScope s_lets_giving) := ⟨rfl, rfl, rfl, by decide +kernel, rfl, by decide +kernel, by decide +kernel⟩
def t_lets_giving (K : PySem.W.Frag) : TS := (tSeq (tDrop (tCall (spP 2 (runP 2 m_need_holders)) [] E0 (tCons (tVar 0) (tCons (tVar 1) tNil)))) (tSeq (tAsg (tOp (rIxA K) (tVar 0) (tC (.int 1))) (gName 3)) (tSeq (tIfS (tOr (tNot (tTr K (tCB (rIsi K) (tCons (tVar 2) (tCons (tC (.ty (Ty.nm .tuple))) tNil))))) (tTest (tOp (rNeU K) (tCB (rLenA K) (tCons (tVar 2) tNil)) (tCB (rLenA K) (tCons (tVar 3) tNil))))) tNever tNext) (tSeq (tFor (iEnA K (tCons (tVar 2) tNil)) (gTup K 2 (gCons (gName 5) (gCons (gName 6) gNil))) (tIfS (tOr (tNot (tTr K (tCall (spP 1 (runP 1 m_is_integer)) [] E0 (tCons (tVar 6) tNil)))) (tNot (tTest (tChain (rLeW K) (rLtW K) (tUn rNeg (tC (.int 1))) (tVar 6) (tCB (rLenA K) (tCons (tVar 1) tNil)))))) tNever tNext)) (tSeq (tAsg (tCall (spP 3 (runP 5 m_comers)) [] E0 (tCons (tVar 0) (tCons (tVar 1) (tCons (tVar 2) tNil)))) (gName 4)) (tSeq (tFor (iEnA K (tCons (tVar 2) tNil)) (gTup K 2 (gCons (gName 5) (gCons (gName 6) gNil))) (tIfS (tAnd (tTest (tOp (rNeU K) (tVar 6) (tUn rNeg (tC (.int 1))))) (tTest (tOp (rInA K fun b => !b) (tOp (rIxA K) (tOp (rIxA K) (tVar 3) (tVar 5)) (tC (.int 0))) (tOp (rIxA K) (tVar 4) (tVar 6))))) tNever tNext)) (tRet (tOp AP.rSub (tCB (rLenA K) (tCons (tVar 2) tNil)) (tSeqM K (rCntT K) (rCntL K) (tVar 2) (tUn rNeg (tC (.int 1))))))))))))
abbrev m_lets_giving : SM := PD.m_lets_giving
theorem ss_lets_giving [Gd] (K : PySem.W.Frag) : SnS (t_lets_giving K) m_lets_giving := (ss_seq (ss_drop (sn_call (sn_cons sn_var (sn_cons sn_var sn_nil)))) (ss_seq (ss_asg (sn_op r2_ix sn_var sn_int) sg_name) (ss_seq (ss_if (sn_or (sn_not (sn_tr (sn_isi sn_var))) (sn_test (sn_op r2_neU (sn_cb rc_len (sn_cons sn_var sn_nil)) (sn_cb rc_len (sn_cons sn_var sn_nil))))) ss_never ss_next) (ss_seq (ss_for (si_enum (sn_cons sn_var sn_nil)) (sg_tup (sgs_cons sg_name (sgs_cons sg_name sgs_nil))) (ss_if (sn_or (sn_not (sn_tr (sn_call (sn_cons sn_var sn_nil)))) (sn_not (sn_test (sn_chain r2_leW r2_ltW (sn_un r1_neg sn_int) sn_var (sn_cb rc_len (sn_cons sn_var sn_nil)))))) ss_never ss_next)) (ss_seq (ss_asg (sn_call (sn_cons sn_var (sn_cons sn_var (sn_cons sn_var sn_nil)))) sg_name) (ss_seq (ss_for (si_enum (sn_cons sn_var sn_nil)) (sg_tup (sgs_cons sg_name (sgs_cons sg_name sgs_nil))) (ss_if (sn_and (sn_test (sn_op r2_neU sn_var (sn_un r1_neg sn_int))) (sn_test (sn_op (r2_in (f := fun b => !b)) (sn_op r2_ix (sn_op r2_ix sn_var sn_var) sn_int) (sn_op r2_ix sn_var sn_var)))) ss_never ss_next)) (ss_ret (sn_op r2_sub (sn_cb rc_len (sn_cons sn_var sn_nil)) (sn_seqM rm_cntT rm_cntL sn_var (sn_un r1_neg sn_int))))))))))
abbrev s_need_giving : Stmt := top 30
abbrev N_need_giving : List Str := ["net", "holders", "giving"]
theorem sc_need_giving : FnScope N_need_giving ["net", "holders", "giving"] (defScope s_need_giving) := ⟨rfl, rfl, rfl, by decide +kernel, rfl, by decide +kernel, by decide +kernel⟩
def t_need_giving (K : PySem.W.Frag) : TS := (tDrop (tCall (spP 3 (runP 7 m_lets_giving)) [] E0 (tCons (tVar 0) (tCons (tVar 1) (tCons (tVar 2) tNil)))))
abbrev m_need_giving : SM := PD.m_need_giving
theorem ss_need_giving [Gd] (K : PySem.W.Frag) : SnS (t_need_giving K) m_need_giving := (ss_drop (sn_call (sn_cons sn_var (sn_cons sn_var (sn_cons sn_var sn_nil)))))
abbrev s_having : Stmt := top 32
abbrev N_having : List Str := ["net", "holders", "giving", "found"]
theorem sc_having : FnScope N_having ["net", "holders", "giving"] (defScope s_having) := ⟨rfl, rfl, rfl, by decide +kernel, rfl, by decide +kernel, by decide +kernel⟩
def t_having (K : PySem.W.Frag) : TS := (tSeq (tDrop (tCall (spP 3 (runP 3 m_need_giving)) [] E0 (tCons (tVar 0) (tCons (tVar 1) (tCons (tVar 2) tNil))))) (tRet (tCB (rTupA K) (tCons (tLc (iAny K (tCall (spP 3 (runP 5 m_comers)) [] E0 (tCons (tVar 0) (tCons (tVar 1) (tCons (tVar 2) tNil))))) (gName 3) tYes (tCB (rTupA K) (tCons (tCB (rSortX K) (tCons (tVar 3) tNil)) tNil)) [3]) tNil))))
abbrev m_having : SM := PD.m_having
theorem ss_having [Gd] (K : PySem.W.Frag) : SnS (t_having K) m_having := (ss_seq (ss_drop (sn_call (sn_cons sn_var (sn_cons sn_var (sn_cons sn_var sn_nil))))) (ss_ret (sn_cb rc_tuple (sn_cons (sn_dat (sn_lc (si_any (sn_call (sn_cons sn_var (sn_cons sn_var (sn_cons sn_var sn_nil))))) sg_name (gk_name (by decide)) sn_yes (sn_cb rc_tuple (sn_cons (sn_cb rc_sortedX (sn_cons sn_var sn_nil)) sn_nil)))) sn_nil))))
abbrev s__is_idle : Stmt := top 34
abbrev N__is_idle : List Str := ["net", "holders", "giving", "wire", "piece", "less", "held"]
theorem sc__is_idle : FnScope N__is_idle ["net", "holders", "giving", "wire"] (defScope s__is_idle) := ⟨rfl, rfl, rfl, by decide +kernel, rfl, by decide +kernel, by decide +kernel⟩
def t__is_idle (K : PySem.W.Frag) : TS := (tSeq (tAsg (tOp (rIxA K) (tVar 2) (tVar 3)) (gName 4)) (tSeq (tAsg (tTupF (StX.tStar K (tSl (rSlU K) (tVar 2) tNoPart (tPart (tVar 3))) (tCons (tUn rNeg (tC (.int 1))) (StX.tStar K (tSl (rSlU K) (tVar 2) (tPart (tOp (rAddU K) (tVar 3) (tC (.int 1)))) tNoPart) tNil)))) (gName 5)) (tSeq (tAsg (tOp (rIxA K) (tVar 1) (tVar 4)) (gName 6)) (tRet (tOp (rEqU K) (tCB (rLenA K) (tCons (tCall (spP 4 (runP 11 m_comers_to)) [] E0 (tCons (tVar 0) (tCons (tVar 6) (tCons (tVar 5) (tCons (tVar 4) tNil))))) tNil)) (tCB (rLenA K) (tCons (tCall (spP 4 (runP 11 m_comers_to)) [] E0 (tCons (tVar 0) (tCons (tVar 6) (tCons (tVar 2) (tCons (tVar 4) tNil))))) tNil)))))))
abbrev m__is_idle : SM := PD.m__is_idle
theorem ss__is_idle [Gd] (K : PySem.W.Frag) : SnS (t__is_idle K) m__is_idle := (ss_seq (ss_asg (sn_op r2_ix sn_var sn_var) sg_name) (ss_seq (ss_asg (sn_tup (sn_star (sn_sl rs_U sn_var sn_nopart (sn_part sn_var)) (sn_cons (sn_un r1_neg sn_int) (sn_star (sn_sl rs_U sn_var (sn_part (sn_op r2_addU sn_var sn_int)) sn_nopart) sn_nil)))) sg_name) (ss_seq (ss_asg (sn_op r2_ix sn_var sn_var) sg_name) (ss_ret (sn_op r2_eqU (sn_cb rc_len (sn_cons (sn_call (sn_cons sn_var (sn_cons sn_var (sn_cons sn_var (sn_cons sn_var sn_nil))))) sn_nil)) (sn_cb rc_len (sn_cons (sn_call (sn_cons sn_var (sn_cons sn_var (sn_cons sn_var (sn_cons sn_var sn_nil))))) sn_nil)))))))
abbrev s_idle_wires : Stmt := top 33
abbrev N_idle_wires : List Str := ["net", "holders", "giving", "given", "wire", "piece"]
theorem sc_idle_wires : FnScope N_idle_wires ["net", "holders", "giving"] (defScope s_idle_wires) := ⟨rfl, rfl, rfl, by decide +kernel, rfl, by decide +kernel, by decide +kernel⟩
def t_idle_wires (K : PySem.W.Frag) : TS := (tSeq (tDrop (tCall (spP 3 (runP 3 m_need_giving)) [] E0 (tCons (tVar 0) (tCons (tVar 1) (tCons (tVar 2) tNil))))) (tSeq (tAsg (tLc (iEnA K (tCons (tVar 2) tNil)) (gTup K 2 (gCons (gName 4) (gCons (gName 5) gNil))) (tTest (tOp (rNeU K) (tVar 5) (tUn rNeg (tC (.int 1))))) (tVar 4) [4, 5]) (gName 3)) (tRet (tCB (rTupA K) (tCons (tLc (iAny K (tVar 3)) (gName 4) (tTr K (tCall (spP 4 (runP 7 m__is_idle)) [] E0 (tCons (tVar 0) (tCons (tVar 1) (tCons (tVar 2) (tCons (tVar 4) tNil)))))) (tVar 4) [4]) tNil)))))
abbrev m_idle_wires : SM := PD.m_idle_wires
theorem ss_idle_wires [Gd] (K : PySem.W.Frag) : SnS (t_idle_wires K) m_idle_wires := (ss_seq (ss_drop (sn_call (sn_cons sn_var (sn_cons sn_var (sn_cons sn_var sn_nil))))) (ss_seq (ss_asg (sn_dat (sn_lc (si_enum (sn_cons sn_var sn_nil)) (sg_tup (sgs_cons sg_name (sgs_cons sg_name sgs_nil))) (gk_tup (gks_cons (gk_name (by decide)) (gks_cons (gk_name (by decide)) gks_nil))) (sn_test (sn_op r2_neU sn_var (sn_un r1_neg sn_int))) sn_var)) sg_name) (ss_ret (sn_cb rc_tuple (sn_cons (sn_dat (sn_lc (si_any sn_var) sg_name (gk_name (by decide)) (sn_tr (sn_call (sn_cons sn_var (sn_cons sn_var (sn_cons sn_var (sn_cons sn_var sn_nil)))))) sn_var)) sn_nil)))))
@[reducible] instance gInst : Gd := gT
abbrev s__law_feed : Stmt := top 36
abbrev N__law_feed : List Str := ["_law_script", "_law_one"]
theorem sc__law_feed : FnScope N__law_feed ["_law_script"] (defScope s__law_feed) := ⟨rfl, rfl, rfl, by decide +kernel, rfl, by decide +kernel, by decide +kernel⟩
abbrev s__law_draw : Stmt := top 37
abbrev N__law_draw : List Str := ["_law_feed_here", "_law_many", "_law_one", "_law_mixed", "_law_digit", "_law_some", "_law_k"]
theorem sc__law_draw : FnScope N__law_draw ["_law_feed_here", "_law_many"] (defScope s__law_draw) := ⟨rfl, rfl, rfl, by decide +kernel, rfl, by decide +kernel, by decide +kernel⟩
def t__law_draw (K : PySem.W.Frag) : TS := (tSeq (sDPut (tVar 0) (tC (.str (Str.ofString "drawn"))) (tOp (rAddU K) (tOp (rIxA K) (tVar 0) (tC (.str (Str.ofString "drawn")))) (tC (.int 1)))) (tSeq (tIfS (tTest (tOp rGtU (tOp (rIxA K) (tVar 0) (tC (.str (Str.ofString "left")))) (tC (.int 0)))) (tSeq (tAsg (tOp rMod (tCB rIntA (tCons (tOp (rIxA K) (tVar 0) (tC (.str (Str.ofString "left")))) tNil)) (tVar 1)) (gName 4)) (tSeq (sDPut (tVar 0) (tC (.str (Str.ofString "left"))) (tOp rDiv (tOp (rIxA K) (tVar 0) (tC (.str (Str.ofString "left")))) (tVar 1))) (tRet (tVar 4)))) tNext) (tSeq (tPar 5 6 (tCons (tOp (rIxA K) (tVar 0) (tC (.str (Str.ofString "cells")))) (tCons (tOp (rIxA K) (tVar 0) (tC (.str (Str.ofString "spot")))) tNil))) (tSeq (sDPut (tVar 0) (tC (.str (Str.ofString "spot"))) (tOp (rAddU K) (tVar 6) (tC (.int 1)))) (tSeq (tAsg (tIf (tTest (tOp (rNeU K) (tVar 5) (tLst tNil))) (tOp (rIxA K) (tVar 5) (tOp rMod (tCB rIntA (tCons (tVar 6) tNil)) (tCB (rLenA K) (tCons (tVar 5) tNil)))) (tC (.int 80479))) (gName 2)) (tSeq (tIfS (tAnd (tTest (tOp rGeU (tVar 2) (tOp rPow (tC (.int 10)) (tC (.int 18))))) (tTest (tOp rLtU (tVar 6) (tCB (rLenA K) (tCons (tVar 5) tNil))))) (tSeq (sDPut (tVar 0) (tC (.str (Str.ofString "left"))) (tOp rDiv (tVar 2) (tVar 1))) (tRet (tOp rMod (tCB rIntA (tCons (tVar 2) tNil)) (tVar 1)))) tNext) (tSeq (tAsg (tOp rMod (tCB rIntA (tCons (tOp (rAddU K) (tOp (rAddU K) (tOp rMod (tCB rIntA (tCons (tVar 2) tNil)) (tC (.int 1000011071))) (tOp rMul (tC (.int 92551)) (tOp (rIxA K) (tVar 0) (tC (.str (Str.ofString "drawn")))))) (tC (.int 185))) tNil)) (tC (.int 2147449823))) (gName 3)) (tSeq (tAsg (tOp rMod (tCB rIntA (tCons (tOp (rAddU K) (tOp (rAddU K) (tOp rMul (tVar 3) (tVar 3)) (tOp rMul (tC (.int 5950027)) (tOp (rIxA K) (tVar 0) (tC (.str (Str.ofString "drawn")))))) (tC (.int 267))) tNil)) (tC (.int 2147449789))) (gName 3)) (tRet (tOp rMod (tCB rIntA (tCons (tOp rDiv (tOp rMod (tCB rIntA (tCons (tOp (rAddU K) (tOp rMul (tVar 3) (tVar 3)) (tOp rMul (tC (.int 561)) (tVar 3))) tNil)) (tC (.int 2147449783))) (tC (.int 16))) tNil)) (tVar 1)))))))))))
def dc : PF2.DC2 := ⟨80479, 1000011071, 92551, 185, 2147449823, 5950027, 267, 2147449789, 561, 2147449783, 16⟩
abbrev m__law_draw : SM := PF2.m__law_draw dc
theorem ss__law_draw (K : PySem.W.Frag) : SnS (t__law_draw K) m__law_draw := (ss_seq (ss_put (sn_op r2_addU (sn_op r2_ix sn_var sn_str) sn_int) sn_var sn_str) (ss_seq (ss_if (sn_test (sn_op r2_gtU (sn_op r2_ix sn_var sn_str) sn_int)) (ss_seq (ss_asg (sn_op r2_mod (sn_cb rc_int (sn_cons (sn_op r2_ix sn_var sn_str) sn_nil)) sn_var) sg_name) (ss_seq (ss_put (sn_op r2_div (sn_op r2_ix sn_var sn_str) sn_var) sn_var sn_str) (ss_ret sn_var))) ss_next) (ss_seq (ss_par (sn_cons (sn_op r2_ix sn_var sn_str) (sn_cons (sn_op r2_ix sn_var sn_str) sn_nil))) (ss_seq (ss_put (sn_op r2_addU sn_var sn_int) sn_var sn_str) (ss_seq (ss_asg (sn_if (sn_test (sn_op r2_neU sn_var (sn_lst sn_nil))) (sn_op r2_ix sn_var (sn_op r2_mod (sn_cb rc_int (sn_cons sn_var sn_nil)) (sn_cb rc_len (sn_cons sn_var sn_nil)))) sn_int) sg_name) (ss_seq (ss_if (sn_and (sn_test (sn_op r2_geU sn_var (sn_op r2_pow sn_int sn_int))) (sn_test (sn_op r2_ltU sn_var (sn_cb rc_len (sn_cons sn_var sn_nil))))) (ss_seq (ss_put (sn_op r2_div sn_var sn_var) sn_var sn_str) (ss_ret (sn_op r2_mod (sn_cb rc_int (sn_cons sn_var sn_nil)) sn_var))) ss_next) (ss_seq (ss_asg (sn_op r2_mod (sn_cb rc_int (sn_cons (sn_op r2_addU (sn_op r2_addU (sn_op r2_mod (sn_cb rc_int (sn_cons sn_var sn_nil)) sn_int) (sn_op r2_mul sn_int (sn_op r2_ix sn_var sn_str))) sn_int) sn_nil)) sn_int) sg_name) (ss_seq (ss_asg (sn_op r2_mod (sn_cb rc_int (sn_cons (sn_op r2_addU (sn_op r2_addU (sn_op r2_mul sn_var sn_var) (sn_op r2_mul sn_int (sn_op r2_ix sn_var sn_str))) sn_int) sn_nil)) sn_int) sg_name) (ss_ret (sn_op r2_mod (sn_cb rc_int (sn_cons (sn_op r2_div (sn_op r2_mod (sn_cb rc_int (sn_cons (sn_op r2_addU (sn_op r2_mul sn_var sn_var) (sn_op r2_mul sn_int sn_var)) sn_nil)) sn_int) sn_int) sn_nil)) sn_var))))))))))
abbrev s__law_any : Stmt := top 38
abbrev N__law_any : List Str := ["_law_feed_here", "_law_some"]
theorem sc__law_any : FnScope N__law_any ["_law_feed_here", "_law_some"] (defScope s__law_any) := ⟨rfl, rfl, rfl, by decide +kernel, rfl, by decide +kernel, by decide +kernel⟩
def t__law_any (K : PySem.W.Frag) : TS := (tRet (tOp (rIxA K) (tVar 1) (tCall (spF 2 (runF 7 m__law_draw)) [] E0 (tCons (tVar 0) (tCons (tCB (rLenA K) (tCons (tVar 1) tNil)) tNil)))))
abbrev m__law_any : SM := PF2.m__law_any dc
theorem ss__law_any (K : PySem.W.Frag) : SnS (t__law_any K) m__law_any := (ss_ret (sn_op r2_ix sn_var (sn_callF (sn_cons sn_var (sn_cons (sn_cb rc_len (sn_cons sn_var sn_nil)) sn_nil)))))
abbrev s__law_names : Stmt := top 39
abbrev N__law_names : List Str := ["_law_feed_here", "_law_many", "_law_pools", "_law_lap", "_law_pool", "_law_found"]
theorem sc__law_names : FnScope N__law_names ["_law_feed_here", "_law_many"] (defScope s__law_names) := ⟨rfl, rfl, rfl, by decide +kernel, rfl, by decide +kernel, by decide +kernel⟩
def t__law_names (K : PySem.W.Frag) : TS := (tSeq (tAsg (tLst (tCons (tCB (rLstW K) (tCons (tC (.str (Str.ofString "abcdefghijkl"))) tNil)) tNil)) (gName 2)) (tSeq (tDrop (tBM K "list" rAppend (tVar 2) (tCons (tLst (tCons (tC (.str (Str.ofString "a"))) (tCons (tC (.str (Str.ofString "aa"))) (tCons (tC (.str (Str.ofString "aaa"))) (tCons (tC (.str (Str.ofString "ab"))) (tCons (tC (.str (Str.ofString "b"))) (tCons (tC (.str (Str.ofString "ba"))) (tCons (tC (.str (Str.ofString "zzzzzzzz"))) (tCons (tC (.str (Str.ofString "zzzzzzzy"))) (tCons (tC (.str (Str.ofString "z"))) (tCons (tC (.str (Str.ofString "zz"))) (tCons (tC (.str (Str.ofString "abcdefgh"))) (tCons (tC (.str (Str.ofString "y"))) tNil))))))))))))) tNil))) (tSeq (tDrop (tBM K "list" rAppend (tVar 2) (tCons (tLst (tCons (tC (.str (Str.ofString "houses"))) (tCons (tC (.str (Str.ofString "none"))) (tCons (tC (.str (Str.ofString "net"))) (tCons (tC (.str (Str.ofString "wire"))) (tCons (tC (.str (Str.ofString "piece"))) (tCons (tC (.str (Str.ofString "give"))) (tCons (tC (.str (Str.ofString "lose"))) (tCons (tC (.str (Str.ofString "lay"))) (tCons (tC (.str (Str.ofString "all"))) (tCons (tC (.str (Str.ofString "short"))) (tCons (tC (.str (Str.ofString "going"))) (tCons (tC (.str (Str.ofString "on"))) tNil))))))))))))) tNil))) (tSeq (tPar 4 5 (tCons (tCB (rLstA K) (tCons (tCall (spF 2 (runF 2 m__law_any)) [] E0 (tCons (tVar 0) (tCons (tVar 2) tNil))) tNil)) (tCons (tLst tNil) tNil))) (tSeq (tFor (iRng1 (tCons (tVar 1) tNil)) (gName 3) (tDrop (tBM K "list" rAppend (tVar 5) (tCons (tBM K "list" rPopAt (tVar 4) (tCons (tCall (spF 2 (runF 7 m__law_draw)) [] E0 (tCons (tVar 0) (tCons (tCB (rLenA K) (tCons (tVar 4) tNil)) tNil))) tNil)) tNil)))) (tRet (tVar 5)))))))
abbrev m__law_names : SM := PF2.m__law_names dc
theorem ss__law_names (K : PySem.W.Frag) : SnS (t__law_names K) m__law_names := (ss_seq (ss_own (sn_lstN (sn_cons (sn_cb rc_listW (sn_cons sn_str sn_nil)) sn_nil))) (ss_seq (ss_app sn_var (sn_lst (sn_cons sn_str (sn_cons sn_str (sn_cons sn_str (sn_cons sn_str (sn_cons sn_str (sn_cons sn_str (sn_cons sn_str (sn_cons sn_str (sn_cons sn_str (sn_cons sn_str (sn_cons sn_str (sn_cons sn_str sn_nil)))))))))))))) (ss_seq (ss_app sn_var (sn_lst (sn_cons sn_str (sn_cons sn_str (sn_cons sn_str (sn_cons sn_str (sn_cons sn_str (sn_cons sn_str (sn_cons sn_str (sn_cons sn_str (sn_cons sn_str (sn_cons sn_str (sn_cons sn_str (sn_cons sn_str sn_nil)))))))))))))) (ss_seq (ss_parOO (sn_listN (sn_callFT (sn_cons sn_var (sn_cons sn_var sn_nil)))) (sn_lstN sn_nil)) (ss_seq (ss_for (si_range1 (sn_cons sn_var sn_nil)) sg_name (ss_app sn_var (sn_popI sn_var (sn_callF (sn_cons sn_var (sn_cons (sn_cb rc_len (sn_cons sn_var sn_nil)) sn_nil)))))) (ss_ret sn_var))))))
abbrev s__law_grid : Stmt := top 40
abbrev N__law_grid : List Str := ["_law_feed_here", "_law_most", "_law_cables", "_law_names_here", "_law_found", "_law_lap", "_law_num", "_law_pair", "_law_style"]
theorem sc__law_grid : FnScope N__law_grid ["_law_feed_here", "_law_most", "_law_cables"] (defScope s__law_grid) := ⟨rfl, rfl, rfl, by decide +kernel, rfl, by decide +kernel, by decide +kernel⟩
def t__law_grid (K : PySem.W.Frag) : TS := (tSeq (tAsg (tIf (tTest (tOp rGtU (tCall (spF 2 (runF 7 m__law_draw)) [] E0 (tCons (tVar 0) (tCons (tC (.int 20)) tNil))) (tC (.int 0)))) (tCall (spF 2 (runF 6 m__law_names)) [] E0 (tCons (tVar 0) (tCons (tOp (rAddU K) (tC (.int 2)) (tCall (spF 2 (runF 7 m__law_draw)) [] E0 (tCons (tVar 0) (tCons (tOp AP.rSub (tVar 1) (tC (.int 1))) tNil)))) tNil))) (tCall (spF 2 (runF 6 m__law_names)) [] E0 (tCons (tVar 0) (tCons (tC (.int 1)) tNil)))) (gName 3)) (tSeq (tAsg (tLst tNil) (gName 4)) (tSeq (tFor (iRng1 (tCons (tIf (tTest (tOp rGtU (tCB (rLenA K) (tCons (tVar 3) tNil)) (tC (.int 1)))) (tCall (spF 2 (runF 7 m__law_draw)) [] E0 (tCons (tVar 0) (tCons (tOp (rAddU K) (tVar 2) (tC (.int 1))) tNil))) (tC (.int 0))) tNil)) (gName 5) (tSeq (tAsg (tCall (spF 2 (runF 7 m__law_draw)) [] E0 (tCons (tVar 0) (tCons (tCB (rLenA K) (tCons (tVar 3) tNil)) tNil))) (gName 6)) (tSeq (tAsg (tTupF (tCons (tOp (rIxA K) (tVar 3) (tVar 6)) (tCons (tOp (rIxA K) (tVar 3) (tOp AP.rSub (tOp AP.rSub (tVar 6) (tC (.int 1))) (tCall (spF 2 (runF 7 m__law_draw)) [] E0 (tCons (tVar 0) (tCons (tOp AP.rSub (tCB (rLenA K) (tCons (tVar 3) tNil)) (tC (.int 1))) tNil))))) tNil))) (gName 7)) (tSeq (tAsg (tCall (spF 2 (runF 7 m__law_draw)) [] E0 (tCons (tVar 0) (tCons (tC (.int 6)) tNil))) (gName 8)) (tSeq (tIfS (tAnd (tTest (tOp (rNeU K) (tVar 4) (tLst tNil))) (tTest (tOp (rEqU K) (tVar 8) (tC (.int 0))))) (tAsg (tCall (spF 2 (runF 2 m__law_any)) [] E0 (tCons (tVar 0) (tCons (tVar 4) tNil))) (gName 7)) tNext) (tSeq (tIfS (tAnd (tTest (tOp (rNeU K) (tVar 4) (tLst tNil))) (tTest (tOp (rEqU K) (tVar 8) (tC (.int 1))))) (tAsg (tRevW K (tCall (spF 2 (runF 2 m__law_any)) [] E0 (tCons (tVar 0) (tCons (tVar 4) tNil)))) (gName 7)) tNext) (tDrop (tBM K "list" rAppend (tVar 4) (tCons (tVar 7) tNil))))))))) (tRet (tTupF (tCons (tCB (rTupA K) (tCons (tCB (rSortX K) (tCons (tVar 3) tNil)) tNil)) (tCons (tCB (rTupA K) (tCons (tVar 4) tNil)) tNil)))))))
abbrev m__law_grid : SM := PF2.m__law_grid dc
theorem ss__law_grid (K : PySem.W.Frag) : SnS (t__law_grid K) m__law_grid := (ss_seq (ss_asg (sn_if (sn_test (sn_op r2_gtU (sn_callF (sn_cons sn_var (sn_cons sn_int sn_nil))) sn_int)) (sn_callF (sn_cons sn_var (sn_cons (sn_op r2_addU sn_int (sn_callF (sn_cons sn_var (sn_cons (sn_op r2_sub sn_var sn_int) sn_nil)))) sn_nil))) (sn_callF (sn_cons sn_var (sn_cons sn_int sn_nil)))) sg_name) (ss_seq (ss_own (sn_lstN sn_nil)) (ss_seq (ss_for (si_range1 (sn_cons (sn_if (sn_test (sn_op r2_gtU (sn_cb rc_len (sn_cons sn_var sn_nil)) sn_int)) (sn_callF (sn_cons sn_var (sn_cons (sn_op r2_addU sn_var sn_int) sn_nil))) sn_int) sn_nil)) sg_name (ss_seq (ss_asg (sn_callF (sn_cons sn_var (sn_cons (sn_cb rc_len (sn_cons sn_var sn_nil)) sn_nil))) sg_name) (ss_seq (ss_asg (sn_tup (sn_cons (sn_op r2_ix sn_var sn_var) (sn_cons (sn_op r2_ix sn_var (sn_op r2_sub (sn_op r2_sub sn_var sn_int) (sn_callF (sn_cons sn_var (sn_cons (sn_op r2_sub (sn_cb rc_len (sn_cons sn_var sn_nil)) sn_int) sn_nil))))) sn_nil))) sg_name) (ss_seq (ss_asg (sn_callF (sn_cons sn_var (sn_cons sn_int sn_nil))) sg_name) (ss_seq (ss_if (sn_and (sn_test (sn_op r2_neU sn_var (sn_lst sn_nil))) (sn_test (sn_op r2_eqU sn_var sn_int))) (ss_asg (sn_callFT (sn_cons sn_var (sn_cons sn_var sn_nil))) sg_name) ss_next) (ss_seq (ss_if (sn_and (sn_test (sn_op r2_neU sn_var (sn_lst sn_nil))) (sn_test (sn_op r2_eqU sn_var sn_int))) (ss_asg (sn_rev (sn_callFT (sn_cons sn_var (sn_cons sn_var sn_nil)))) sg_name) ss_next) (ss_app sn_var sn_var))))))) (ss_ret (sn_tup (sn_cons (sn_cb rc_tuple (sn_cons (sn_cb rc_sortedX (sn_cons sn_var sn_nil)) sn_nil)) (sn_cons (sn_cb rc_tuple (sn_cons sn_var sn_nil)) sn_nil)))))))
abbrev s__law_stock : Stmt := top 41
abbrev N__law_stock : List Str := ["_law_feed_here", "_law_grid_here", "_law_most", "_law_found", "_law_lap", "_law_some", "_law_turn"]
theorem sc__law_stock : FnScope N__law_stock ["_law_feed_here", "_law_grid_here", "_law_most"] (defScope s__law_stock) := ⟨rfl, rfl, rfl, by decide +kernel, rfl, by decide +kernel, by decide +kernel⟩
def t__law_stock (K : PySem.W.Frag) : TS := (tSeq (tAsg (tLst tNil) (gName 3)) (tSeq (tFor (iRng1 (tCons (tCall (spF 2 (runF 2 m__law_any)) [] E0 (tCons (tVar 0) (tCons (tOp (rAddU K) (tLst (tCons (tC (.int 0)) tNil)) (tOp rMulU (tLstRg (tRg2 (tC (.int 1)) (tOp (rAddU K) (tVar 2) (tC (.int 1))))) (tC (.int 4)))) tNil))) tNil)) (gName 4) (tSeq (tAsg (tLc (iRng1 (tCons (tCall (spF 2 (runF 2 m__law_any)) [] E0 (tCons (tVar 0) (tCons (tLst (tCons (tC (.int 1)) (tCons (tC (.int 1)) (tCons (tC (.int 1)) (tCons (tC (.int 2)) (tCons (tC (.int 3)) tNil)))))) tNil))) tNil)) (gName 6) tYes (tCall (spF 2 (runF 2 m__law_any)) [] E0 (tCons (tVar 0) (tCons (tOp (rIxA K) (tVar 1) (tC (.int 0))) tNil))) [6]) (gName 5)) (tDrop (tBM K "list" rAppend (tVar 3) (tCons (tCB (rTupA K) (tCons (tSSx K (tCons (tVar 5) tNil)) tNil)) tNil))))) (tRet (tCB (rTupA K) (tCons (tVar 3) tNil)))))
abbrev m__law_stock : SM := PF2.m__law_stock dc
theorem ss__law_stock (K : PySem.W.Frag) : SnS (t__law_stock K) m__law_stock := (ss_seq (ss_own (sn_lstN sn_nil)) (ss_seq (ss_for (si_range1 (sn_cons (sn_callF (sn_cons sn_var (sn_cons (sn_op r2_addU (sn_lst (sn_cons sn_int sn_nil)) (sn_op r2_mulU (sn_lstRg2 sn_int (sn_op r2_addU sn_var sn_int)) sn_int)) sn_nil))) sn_nil)) sg_name (ss_seq (ss_asg (sn_dat (sn_lc (si_range1 (sn_cons (sn_callF (sn_cons sn_var (sn_cons (sn_lst (sn_cons sn_int (sn_cons sn_int (sn_cons sn_int (sn_cons sn_int (sn_cons sn_int sn_nil)))))) sn_nil))) sn_nil)) sg_name (gk_name (by decide)) sn_yes (sn_callF (sn_cons sn_var (sn_cons (sn_op r2_ix sn_var sn_int) sn_nil))))) sg_name) (ss_app sn_var (sn_cb rc_tuple (sn_cons (sn_tSSx (sn_cons sn_var sn_nil)) sn_nil))))) (ss_ret (sn_cb rc_tuple (sn_cons sn_var sn_nil)))))
abbrev s__law_has : Stmt := top 42
abbrev N__law_has : List Str := ["_law_grid_here", "_law_stock_here", "_law_plan_here", "_law_found", "_law_share", "_law_first", "_law_own", "_law_lap", "_law_num", "_law_pair"]
theorem sc__law_has : FnScope N__law_has ["_law_grid_here", "_law_stock_here", "_law_plan_here"] (defScope s__law_has) := ⟨rfl, rfl, rfl, by decide +kernel, rfl, by decide +kernel, by decide +kernel⟩
def t__law_has (K : PySem.W.Frag) : TS := (tSeq (tAsg (tLst tNil) (gName 3)) (tSeq (tFor (iEnA K (tCons (tVar 1) tNil)) (gTup K 2 (gCons (gName 4) (gCons (gName 5) gNil))) (tSeq (tAsg (tCB (rLstA K) (tCons (tVar 5) tNil)) (gName 6)) (tSeq (tFor (iRng1 (tCons (tCB (rLenA K) (tCons (tOp (rIxA K) (tVar 0) (tC (.int 0))) tNil)) tNil)) (gName 7) (tFor (iEnA K (tCons (tOp (rIxA K) (tVar 0) (tC (.int 1))) tNil)) (gTup K 2 (gCons (gName 8) (gCons (gName 9) gNil))) (tIfS (tAnd (tTest (tOp (rEqU K) (tOp (rIxA K) (tVar 2) (tVar 8)) (tVar 4))) (tAnd (tTest (tOp (rInA K fun b => b) (tOp (rIxA K) (tVar 9) (tC (.int 0))) (tVar 6))) (tTest (tOp (rInA K fun b => !b) (tOp (rIxA K) (tVar 9) (tC (.int 1))) (tVar 6))))) (tDrop (tBM K "list" rAppend (tVar 6) (tCons (tOp (rIxA K) (tVar 9) (tC (.int 1))) tNil))) tNext))) (tDrop (tBM K "list" rAppend (tVar 3) (tCons (tCB (rTupA K) (tCons (tSSx K (tCons (tVar 6) tNil)) tNil)) tNil)))))) (tRet (tCB (rTupA K) (tCons (tVar 3) tNil)))))
abbrev m__law_has : SM := PF2.m__law_has
theorem ss__law_has (K : PySem.W.Frag) : SnS (t__law_has K) m__law_has := (ss_seq (ss_own (sn_lstN sn_nil)) (ss_seq (ss_for (si_enum (sn_cons sn_var sn_nil)) (sg_tup (sgs_cons sg_name (sgs_cons sg_name sgs_nil))) (ss_seq (ss_own (sn_listN sn_var)) (ss_seq (ss_for (si_range1 (sn_cons (sn_cb rc_len (sn_cons (sn_op r2_ix sn_var sn_int) sn_nil)) sn_nil)) sg_name (ss_for (si_enum (sn_cons (sn_op r2_ix sn_var sn_int) sn_nil)) (sg_tup (sgs_cons sg_name (sgs_cons sg_name sgs_nil))) (ss_if (sn_and (sn_test (sn_op r2_eqU (sn_op r2_ix sn_var sn_var) sn_var)) (sn_and (sn_test (sn_op (r2_in (f := fun b => b)) (sn_op r2_ix sn_var sn_int) sn_var)) (sn_test (sn_op (r2_in (f := fun b => !b)) (sn_op r2_ix sn_var sn_int) sn_var)))) (ss_app sn_var (sn_op r2_ix sn_var sn_int)) ss_next))) (ss_app sn_var (sn_cb rc_tuple (sn_cons (sn_tSSx (sn_cons sn_var sn_nil)) sn_nil)))))) (ss_ret (sn_cb rc_tuple (sn_cons sn_var sn_nil)))))
abbrev s__law_plan : Stmt := top 43
abbrev N__law_plan : List Str := ["_law_feed_here", "_law_grid_here", "_law_stock_here", "_law_tries", "_law_plan_here", "_law_lap", "_law_some", "_law_late", "_law_num", "_law_has_here", "_law_source", "_law_target", "_law_share"]
theorem sc__law_plan : FnScope N__law_plan ["_law_feed_here", "_law_grid_here", "_law_stock_here", "_law_tries"] (defScope s__law_plan) := ⟨rfl, rfl, rfl, by decide +kernel, rfl, by decide +kernel, by decide +kernel⟩
def t__law_plan (K : PySem.W.Frag) : TS := (tSeq (tAsg (tOp rMulU (tLst (tCons (tUn rNeg (tC (.int 1))) tNil)) (tCB (rLenA K) (tCons (tOp (rIxA K) (tVar 1) (tC (.int 1))) tNil))) (gName 4)) (tSeq (tFor (iRng1 (tCons (tIf (tTest (tOp (rNeU K) (tOp (rIxA K) (tVar 1) (tC (.int 1))) (tTupF tNil))) (tVar 3) (tC (.int 0))) tNil)) (gName 5) (tSeq (tAsg (tTupF (tCons (tCall (spF 2 (runF 7 m__law_draw)) [] E0 (tCons (tVar 0) (tCons (tCB (rLenA K) (tCons (tOp (rIxA K) (tVar 1) (tC (.int 1))) tNil)) tNil))) (tCons (tCall (spP 3 (runP 10 m__law_has)) [] E0 (tCons (tVar 1) (tCons (tVar 2) (tCons (tVar 4) tNil)))) tNil))) (gEi K 2 (gCons (gName 8) (gCons (gName 9) gNil)))) (tSeq (tAsg (tOp (rIxA K) (tOp (rIxA K) (tVar 1) (tC (.int 1))) (tVar 8)) (gEi K 2 (gCons (gName 10) (gCons (gName 11) gNil)))) (tSeq (tAsg (tLc (iRng1 (tCons (tCB (rLenA K) (tCons (tVar 2) tNil)) tNil)) (gName 12) (tTest (tOp (rInA K fun b => b) (tVar 10) (tOp (rIxA K) (tVar 9) (tVar 12)))) (tVar 12) [12]) (gName 6)) (tSeq (tAsg (tLc (iAny K (tVar 6)) (gName 12) (tTest (tOp (rInA K fun b => !b) (tVar 11) (tOp (rIxA K) (tVar 9) (tVar 12)))) (tVar 12) [12]) (gName 7)) (tSeq (tIfS (tTest (tOp rGtU (tCall (spF 2 (runF 7 m__law_draw)) [] E0 (tCons (tVar 0) (tCons (tC (.int 4)) tNil))) (tC (.int 0)))) (tAsg (tVar 7) (gName 6)) tNext) (tIfS (tAnd (tTest (tOp (rEqU K) (tOp (rIxA K) (tVar 4) (tVar 8)) (tUn rNeg (tC (.int 1))))) (tTest (tOp (rNeU K) (tVar 6) (tLst tNil)))) (tAsg (tCall (spF 2 (runF 2 m__law_any)) [] E0 (tCons (tVar 0) (tCons (tVar 6) tNil))) (L2.gSub (tVar 4) (tVar 8) rSetL)) tNext))))))) (tRet (tCB (rTupA K) (tCons (tVar 4) tNil)))))
abbrev m__law_plan : SM := PF2.m__law_plan dc
theorem ss__law_plan (K : PySem.W.Frag) : SnS (t__law_plan K) m__law_plan := (ss_seq (ss_own (sn_repN (sn_lst (sn_cons (sn_un r1_neg sn_int) sn_nil)) (sn_cb rc_len (sn_cons (sn_op r2_ix sn_var sn_int) sn_nil)))) (ss_seq (ss_for (si_range1 (sn_cons (sn_if (sn_test (sn_op r2_neU (sn_op r2_ix sn_var sn_int) (sn_tup sn_nil))) sn_var sn_int) sn_nil)) sg_name (ss_seq (ss_asg (sn_tup (sn_cons (sn_callF (sn_cons sn_var (sn_cons (sn_cb rc_len (sn_cons (sn_op r2_ix sn_var sn_int) sn_nil)) sn_nil))) (sn_cons (sn_callU (sn_cons sn_var (sn_cons sn_var (sn_cons sn_var sn_nil)))) sn_nil))) (sg_seq (sgs_cons sg_name (sgs_cons sg_name sgs_nil)))) (ss_seq (ss_asg (sn_op r2_ix (sn_op r2_ix sn_var sn_int) sn_var) (sg_seq (sgs_cons sg_name (sgs_cons sg_name sgs_nil)))) (ss_seq (ss_asg (sn_dat (sn_lc (si_range1 (sn_cons (sn_cb rc_len (sn_cons sn_var sn_nil)) sn_nil)) sg_name (gk_name (by decide)) (sn_test (sn_op (r2_in (f := fun b => b)) sn_var (sn_op r2_ix sn_var sn_var))) sn_var)) sg_name) (ss_seq (ss_asg (sn_dat (sn_lc (si_any sn_var) sg_name (gk_name (by decide)) (sn_test (sn_op (r2_in (f := fun b => !b)) sn_var (sn_op r2_ix sn_var sn_var))) sn_var)) sg_name) (ss_seq (ss_if (sn_test (sn_op r2_gtU (sn_callF (sn_cons sn_var (sn_cons sn_int sn_nil))) sn_int)) (ss_asg sn_var sg_name) ss_next) (ss_if (sn_and (sn_test (sn_op r2_eqU (sn_op r2_ix sn_var sn_var) (sn_un r1_neg sn_int))) (sn_test (sn_op r2_neU sn_var (sn_lst sn_nil)))) (ss_putL (sn_callF (sn_cons sn_var (sn_cons sn_var sn_nil))) sn_var sn_var) ss_next))))))) (ss_ret (sn_cb rc_tuple (sn_cons sn_var sn_nil)))))
abbrev s__law_drawn : Stmt := top 44
abbrev N__law_drawn : List Str := ["_law_feed_here", "_law_grid_here", "_law_stock_here"]
theorem sc__law_drawn : FnScope N__law_drawn ["_law_feed_here"] (defScope s__law_drawn) := ⟨rfl, rfl, rfl, by decide +kernel, rfl, by decide +kernel, by decide +kernel⟩
def t__law_drawn (K : PySem.W.Frag) : TS := (tSeq (tAsg (tCall (spF 3 (runF 9 m__law_grid)) [] E0 (tCons (tVar 0) (tCons (tC (.int 6)) (tCons (tC (.int 14)) tNil)))) (gName 1)) (tSeq (tAsg (tCall (spF 3 (runF 7 m__law_stock)) [] E0 (tCons (tVar 0) (tCons (tVar 1) (tCons (tC (.int 3)) tNil)))) (gName 2)) (tRet (tTupF (tCons (tVar 1) (tCons (tVar 2) (tCons (tCall (spF 4 (runF 13 m__law_plan)) [] E0 (tCons (tVar 0) (tCons (tVar 1) (tCons (tVar 2) (tCons (tOp rMul (tC (.int 3)) (tCB (rLenA K) (tCons (tOp (rIxA K) (tVar 1) (tC (.int 1))) tNil))) tNil))))) tNil)))))))
def m__law_drawn : SM := (mSeq (mAsg (mCallF 3 (runF 9 m__law_grid) (mCons (mVar 0) (mCons (mC (.int 6)) (mCons (mC (.int 14)) mNil)))) (mgName 1)) (mSeq (mAsg (mCallF 3 (runF 7 m__law_stock) (mCons (mVar 0) (mCons (mVar 1) (mCons (mC (.int 3)) mNil)))) (mgName 2)) (mRet (mTup (mCons (mVar 1) (mCons (mVar 2) (mCons (mCallF 4 (runF 13 m__law_plan) (mCons (mVar 0) (mCons (mVar 1) (mCons (mVar 2) (mCons (mOp gMul (mC (.int 3)) (mCB gLen (mCons (mOp gIx (mVar 1) (mC (.int 1))) mNil))) mNil))))) mNil)))))))
theorem ss__law_drawn (K : PySem.W.Frag) : SnS (t__law_drawn K) m__law_drawn := (ss_seq (ss_asg (sn_callF (sn_cons sn_var (sn_cons sn_int (sn_cons sn_int sn_nil)))) sg_name) (ss_seq (ss_asg (sn_callF (sn_cons sn_var (sn_cons sn_var (sn_cons sn_int sn_nil)))) sg_name) (ss_ret (sn_tup (sn_cons sn_var (sn_cons sn_var (sn_cons (sn_callF (sn_cons sn_var (sn_cons sn_var (sn_cons sn_var (sn_cons (sn_op r2_mul sn_int (sn_cb rc_len (sn_cons (sn_op r2_ix sn_var sn_int) sn_nil))) sn_nil))))) sn_nil)))))))
abbrev s_law : Stmt := top 45
abbrev N_law : List Str := ["_law_script", "_law_feed_here", "_law_lap", "_law_num", "_law_heard", "_law_given", "_law_come", "_law_grid_here", "_law_stock_here", "_law_plan_here", "_law_has_here", "_law_due", "_law_late", "_law_told", "_law_share", "_law_own"]
theorem sc_law : FnScope N_law ["_law_script"] (defScope s_law) := ⟨rfl, rfl, rfl, by decide +kernel, rfl, by decide +kernel, by decide +kernel⟩
def t_law (K : PySem.W.Frag) : TS := (tSeq (tFor (iRng1 (tCons (tC (.int 3)) tNil)) (gName 2) (tSeq (tAsg (tCall (spF 1 (runF 3 m__law_drawn)) [] E0 (tCons (tVar 1) tNil)) (gEi K 3 (gCons (gName 7) (gCons (gName 8) (gCons (gName 9) gNil))))) (tSeq (tPar 10 11 (tCons (tCall (spP 3 (runP 10 m__law_has)) [] E0 (tCons (tVar 7) (tCons (tVar 8) (tCons (tVar 9) tNil)))) (tCons (tLst tNil) tNil))) (tSeq (tFor (iRng1 (tCons (tCB (rLenA K) (tCons (tVar 9) tNil)) tNil)) (gName 3) (tSeq (tAsg (tOp (rAddU K) (tOp (rAddU K) (tSl (rSlU K) (tVar 9) tNoPart (tPart (tVar 3))) (tTupF (tCons (tUn rNeg (tC (.int 1))) tNil))) (tSl (rSlU K) (tVar 9) (tPart (tOp (rAddU K) (tVar 3) (tC (.int 1)))) tNoPart)) (gName 12)) (tIfS (tAnd (tTest (tOp (rNeU K) (tOp (rIxA K) (tVar 9) (tVar 3)) (tUn rNeg (tC (.int 1))))) (tTest (tOp (rEqU K) (tCall (spP 3 (runP 10 m__law_has)) [] E0 (tCons (tVar 7) (tCons (tVar 8) (tCons (tVar 12) tNil)))) (tVar 10)))) (tDrop (tBM K "list" rAppend (tVar 11) (tCons (tVar 3) tNil))) tNext))) (tSeq (tAsg (tLst (tCons (tCall (spP 3 (runP 6 m_idle_wires)) [] E0 (tCons (tVar 7) (tCons (tVar 8) (tCons (tVar 9) tNil)))) (tCons (tCallP (spP 3 (runP 6 m_idle_wires)) [1, 0, 2] E0 (tCons (tVar 8) (tCons (tVar 7) (tCons (tVar 9) tNil)))) tNil))) (gName 4)) (tSeq (tIfS (tTest (tOp (rNeU K) (tCB (rRepr K) (tCons (tVar 4) tNil)) (tCB (rRepr K) (tCons (tOp rMulU (tLst (tCons (tCB (rTupA K) (tCons (tVar 11) tNil)) tNil)) (tC (.int 2))) tNil)))) (tRet (tC (.bl false))) tNext) (tSeq (tAsg (tCB (rLenA K) (tCons (tLc (iAny K (tVar 9)) (gName 14) (tTest (tOp (rNeU K) (tVar 14) (tUn rNeg (tC (.int 1))))) (tVar 14) [14]) tNil)) (gName 5)) (tSeq (tFor (iAny K (tVar 11)) (gName 3) (tSeq (tAsg (tOp (rAddU K) (tOp (rAddU K) (tSl (rSlU K) (tVar 9) tNoPart (tPart (tVar 3))) (tTupF (tCons (tUn rNeg (tC (.int 1))) tNil))) (tSl (rSlU K) (tVar 9) (tPart (tOp (rAddU K) (tVar 3) (tC (.int 1)))) tNoPart)) (gName 12)) (tSeq (tAsg (tLst (tCons (tCall (spP 3 (runP 7 m_lets_giving)) [] E0 (tCons (tVar 7) (tCons (tVar 8) (tCons (tVar 12) tNil)))) (tCons (tCall (spP 3 (runP 4 m_having)) [] E0 (tCons (tVar 7) (tCons (tVar 8) (tCons (tVar 12) tNil)))) tNil))) (gName 13)) (tIfS (tTest (tOp (rNeU K) (tCB (rRepr K) (tCons (tVar 13) tNil)) (tCB (rRepr K) (tCons (tLst (tCons (tOp AP.rSub (tVar 5) (tC (.int 1))) (tCons (tVar 10) tNil))) tNil)))) (tRet (tC (.bl false))) tNext)))) (tSeq (tAsg (tCB (rSum K) (tCons (tLc (iEnA K (tCons (tVar 10) tNil)) (gTup K 2 (gCons (gName 14) (gCons (gName 15) gNil))) tYes (tOp AP.rSub (tCB (rLenA K) (tCons (tVar 15) tNil)) (tCB (rLenA K) (tCons (tOp (rIxA K) (tVar 8) (tVar 14)) tNil))) [14, 15]) tNil)) (gName 6)) (tIfS (tTest (tOp (rNeU K) (tOp (rEqU K) (tVar 11) (tLst tNil)) (tOp (rEqU K) (tVar 5) (tVar 6)))) (tRet (tC (.bl false))) tNext)))))))))) (tRet (tC (.bl true))))
def fb_law_0 : SM := (mSeq (mAsg (mOp gAddU (mOp gAddU (mSl gSl (mVar 9) mNoPart (mPart (mVar 3))) (mTup (mCons (mUn gNeg (mC (.int 1))) mNil))) (mSl gSl (mVar 9) (mPart (mOp gAddU (mVar 3) (mC (.int 1)))) mNoPart)) (mgName 12)) (mIfS (mAnd (mTest (mOp gNe (mOp gIx (mVar 9) (mVar 3)) (mUn gNeg (mC (.int 1))))) (mTest (mOp gEq (mCall 3 (runP 10 m__law_has) (mCons (mVar 7) (mCons (mVar 8) (mCons (mVar 12) mNil)))) (mVar 10)))) (mApp (mVar 11) (mVar 3)) mNext))
def fl_law_1 : SM := (mFor (mRange (mCons (mCB gLen (mCons (mVar 9) mNil)) mNil)) (mgName 3) fb_law_0)
def lc_law_2 : NM := (mLc (mAnyI (mVar 9)) (mgName 14) (mTest (mOp gNe (mVar 14) (mUn gNeg (mC (.int 1))))) (mVar 14) [14])
def fb_law_3 : SM := (mSeq (mAsg (mOp gAddU (mOp gAddU (mSl gSl (mVar 9) mNoPart (mPart (mVar 3))) (mTup (mCons (mUn gNeg (mC (.int 1))) mNil))) (mSl gSl (mVar 9) (mPart (mOp gAddU (mVar 3) (mC (.int 1)))) mNoPart)) (mgName 12)) (mSeq (mAsg (mLst (mCons (mCall 3 (runP 7 m_lets_giving) (mCons (mVar 7) (mCons (mVar 8) (mCons (mVar 12) mNil)))) (mCons (mCall 3 (runP 4 m_having) (mCons (mVar 7) (mCons (mVar 8) (mCons (mVar 12) mNil)))) mNil))) (mgName 13)) (mIfS (mTest (mOp gNe (mCB gRepr (mCons (mVar 13) mNil)) (mCB gRepr (mCons (mLst (mCons (mOp gSub (mVar 5) (mC (.int 1))) (mCons (mVar 10) mNil))) mNil)))) (mRet (mC (.bool false))) mNext)))
def fl_law_4 : SM := (mForK (mVar 11) (mgName 3) fb_law_3)
def lc_law_5 : NM := (mLc (mEnum (mCons (mVar 10) mNil)) (mgTup 2 (mgCons (mgName 14) (mgCons (mgName 15) mgNil))) mYes (mOp gSub (mCB gLen (mCons (mVar 15) mNil)) (mCB gLen (mCons (mOp gIx (mVar 8) (mVar 14)) mNil))) [14, 15])
def fb_law_6 : SM := (mSeq (mAsg (mCallF 1 (runF 3 m__law_drawn) (mCons (mVar 1) mNil)) (mgSeq 3 (mgCons (mgName 7) (mgCons (mgName 8) (mgCons (mgName 9) mgNil))))) (mSeq (mParO 10 11 (mCall 3 (runP 10 m__law_has) (mCons (mVar 7) (mCons (mVar 8) (mCons (mVar 9) mNil)))) (mLstN mNil)) (mSeq fl_law_1 (mSeq (mAsg (mLst (mCons (mCall 3 (runP 6 m_idle_wires) (mCons (mVar 7) (mCons (mVar 8) (mCons (mVar 9) mNil)))) (mCons (mCallK 3 (runP 6 m_idle_wires) [1, 0, 2] (mCons (mVar 8) (mCons (mVar 7) (mCons (mVar 9) mNil)))) mNil))) (mgName 4)) (mSeq (mIfS (mTest (mOp gNe (mCB gRepr (mCons (mVar 4) mNil)) (mCB gRepr (mCons (mOp gMulU (mLst (mCons (mCB gTuple (mCons (mVar 11) mNil)) mNil)) (mC (.int 2))) mNil)))) (mRet (mC (.bool false))) mNext) (mSeq (mAsg (mCB gLen (mCons (mDat lc_law_2) mNil)) (mgName 5)) (mSeq fl_law_4 (mSeq (mAsg (mCB gSum (mCons (mDat lc_law_5) mNil)) (mgName 6)) (mIfS (mTest (mOp gNe (mOp gEq (mVar 11) (mLst mNil)) (mOp gEq (mVar 5) (mVar 6)))) (mRet (mC (.bool false))) mNext)))))))))
def fl_law_7 : SM := (mFor (mRange (mCons (mC (.int 3)) mNil)) (mgName 2) fb_law_6)
def m_law_1 : SM := (mRet (mC (.bool true)))
def m_law : SM := mSeq fl_law_7 m_law_1
theorem ss_law (K : PySem.W.Frag) : SnS (t_law K) m_law := (ss_seq (ss_for (si_range1 (sn_cons sn_int sn_nil)) sg_name (ss_seq (ss_asg (sn_callF (sn_cons sn_var sn_nil)) (sg_seq (sgs_cons sg_name (sgs_cons sg_name (sgs_cons sg_name sgs_nil))))) (ss_seq (ss_parO (sn_call (sn_cons sn_var (sn_cons sn_var (sn_cons sn_var sn_nil)))) (sn_lstN sn_nil)) (ss_seq (ss_for (si_range1 (sn_cons (sn_cb rc_len (sn_cons sn_var sn_nil)) sn_nil)) sg_name (ss_seq (ss_asg (sn_op r2_addU (sn_op r2_addU (sn_sl rs_U sn_var sn_nopart (sn_part sn_var)) (sn_tup (sn_cons (sn_un r1_neg sn_int) sn_nil))) (sn_sl rs_U sn_var (sn_part (sn_op r2_addU sn_var sn_int)) sn_nopart)) sg_name) (ss_if (sn_and (sn_test (sn_op r2_neU (sn_op r2_ix sn_var sn_var) (sn_un r1_neg sn_int))) (sn_test (sn_op r2_eqU (sn_call (sn_cons sn_var (sn_cons sn_var (sn_cons sn_var sn_nil)))) sn_var))) (ss_app sn_var sn_var) ss_next))) (ss_seq (ss_asg (sn_lst (sn_cons (sn_call (sn_cons sn_var (sn_cons sn_var (sn_cons sn_var sn_nil)))) (sn_cons (sn_callK (sn_cons sn_var (sn_cons sn_var (sn_cons sn_var sn_nil)))) sn_nil))) sg_name) (ss_seq (ss_if (sn_test (sn_op r2_neU (sn_cb rc_repr (sn_cons sn_var sn_nil)) (sn_cb rc_repr (sn_cons (sn_op r2_mulU (sn_lst (sn_cons (sn_cb rc_tuple (sn_cons sn_var sn_nil)) sn_nil)) sn_int) sn_nil)))) (ss_ret sn_bl) ss_next) (ss_seq (ss_asg (sn_cb rc_len (sn_cons (sn_dat (sn_lc (si_any sn_var) sg_name (gk_name (by decide)) (sn_test (sn_op r2_neU sn_var (sn_un r1_neg sn_int))) sn_var)) sn_nil)) sg_name) (ss_seq (ss_forK sn_var sg_name (ss_seq (ss_asg (sn_op r2_addU (sn_op r2_addU (sn_sl rs_U sn_var sn_nopart (sn_part sn_var)) (sn_tup (sn_cons (sn_un r1_neg sn_int) sn_nil))) (sn_sl rs_U sn_var (sn_part (sn_op r2_addU sn_var sn_int)) sn_nopart)) sg_name) (ss_seq (ss_asg (sn_lst (sn_cons (sn_call (sn_cons sn_var (sn_cons sn_var (sn_cons sn_var sn_nil)))) (sn_cons (sn_call (sn_cons sn_var (sn_cons sn_var (sn_cons sn_var sn_nil)))) sn_nil))) sg_name) (ss_if (sn_test (sn_op r2_neU (sn_cb rc_repr (sn_cons sn_var sn_nil)) (sn_cb rc_repr (sn_cons (sn_lst (sn_cons (sn_op r2_sub sn_var sn_int) (sn_cons sn_var sn_nil))) sn_nil)))) (ss_ret sn_bl) ss_next)))) (ss_seq (ss_asg (sn_cb rc_sum (sn_cons (sn_dat (sn_lc (si_enum (sn_cons sn_var sn_nil)) (sg_tup (sgs_cons sg_name (sgs_cons sg_name sgs_nil))) (gk_tup (gks_cons (gk_name (by decide)) (gks_cons (gk_name (by decide)) gks_nil))) sn_yes (sn_op r2_sub (sn_cb rc_len (sn_cons sn_var sn_nil)) (sn_cb rc_len (sn_cons (sn_op r2_ix sn_var sn_var) sn_nil))))) sn_nil)) sg_name) (ss_if (sn_test (sn_op r2_neU (sn_op r2_eqU sn_var (sn_lst sn_nil)) (sn_op r2_eqU sn_var sn_var))) (ss_ret sn_bl) ss_next)))))))))) (ss_ret sn_bl))
end
end H18

namespace H18
noncomputable section
open PySem PySem.Spec PyProof.Rows L2 RZ AP
variable [Tbls]
theorem ok_is_integer [Gd] {P : Program} {w : World} {K : PySem.W.Frag} {mg : Str → Option Value} {base : Heap} {f : Addr} {fd : FuncData} (b_bool : mg "bool" = none) (b_int : mg "int" = none) (b_isinstance : mg "isinstance" = none) (F : FnP K "is_integer" s_is_integer f fd) : FnG P w K mg base CX0 1 f fd ["thing"] (spP 1 (runP 1 m_is_integer)) :=
  have nd := sc_is_integer.nd
  def_pure F sc_is_integer (fun cdv hv A outer s H E hg hr => PSs.nox ((pss_one (ps_ret (pe_andT (pe_callB call_isi (by rfl) b_isinstance boot_isinstance (pa_cons (pv 0) (pa_cons (pe_bltn (v := .ty (Ty.nm .int)) (by rfl) b_int boot_int rfl) pa_nil))) (pe_one (pe_notT (pe_callB call_isi (by rfl) b_isinstance boot_isinstance (pa_cons (pv 0) (pa_cons (pe_bltn (v := .ty (Ty.nm .bool)) (by rfl) b_bool boot_bool rfl) pa_nil)))))))))) (ss_is_integer K)
theorem ok_is_pair [Gd] {P : Program} {w : World} {K : PySem.W.Frag} {mg : Str → Option Value} {base : Heap} {f : Addr} {fd : FuncData} (b_isinstance : mg "isinstance" = none) (b_len : mg "len" = none) (b_tuple : mg "tuple" = none) (F : FnP K "is_pair" s_is_pair f fd) : FnG P w K mg base CX0 1 f fd ["thing"] (spP 1 (runP 1 m_is_pair)) :=
  have nd := sc_is_pair.nd
  def_pure F sc_is_pair (fun cdv hv A outer s H E hg hr => PSs.nox ((pss_one (ps_ret (pe_andT (pe_callB call_isi (by rfl) b_isinstance boot_isinstance (pa_cons (pv 0) (pa_cons (pe_bltn (v := .ty (Ty.nm .tuple)) (by rfl) b_tuple boot_tuple rfl) pa_nil))) (pe_one (pe_cmpR (op_eqU (hu64 hr)) (pe_callB call_lenA (by rfl) b_len boot_len (pa_cons (pv 0) pa_nil)) pe_int (nomark _)))))))) (ss_is_pair K)
theorem ok_is_ascending [Gd] {P : Program} {w : World} {K : PySem.W.Frag} {mg : Str → Option Value} {base : Heap} {f : Addr} {fd : FuncData} (b_all : mg "all" = none) (b_zip : mg "zip" = none) (F : FnP K "is_ascending" s_is_ascending f fd) : FnG P w K mg base CX0 1 f fd ["values"] (spP 1 (runP 3 m_is_ascending)) :=
  have nd := sc_is_ascending.nd
  def_pure F sc_is_ascending (fun cdv hv A outer s H E hg hr => PSs.nox ((pss_one (ps_ret (pe_callB (cr_all rfl) (by rfl) b_all boot_all (pa_cons (pe_lc (own := [("low", 1), ("high", 2)]) (g := (gTup K 2 (gCons (gName 1) (gCons (gName 2) gNil)))) (tt := tYes) rfl nd  (pi_zipX (by rfl) b_zip (pa_cons (pv 0) (pa_cons (pe_slice sl_U (pv 0) (po_some pe_int) po_none) pa_nil))) (blkOk_by (N := N_is_ascending) (sc := defScope s_is_ascending) (by decide +kernel)) (fun _ _ _ _ _ => (pg_tup rfl (pgs_cons (pg_name (i := 1) nd rfl (by first | exact Or.inl rfl | exact Or.inr rfl)) (pgs_cons (pg_name (i := 2) nd rfl (by first | exact Or.inl rfl | exact Or.inr rfl)) pgs_nil)))) (fun _ _ _ _ _ => pts_nil) (fun _ _ _ _ _ => (pe_cmpR (op_ltW (hu64 hr)) (pv 1) (pv 2) (nomark _)))) pa_nil)))))) (ss_is_ascending K)
theorem ok_is_name [Gd] {P : Program} {w : World} {K : PySem.W.Frag} {mg : Str → Option Value} {base : Heap} {f : Addr} {fd : FuncData} (b_all : mg "all" = none) (b_isinstance : mg "isinstance" = none) (b_len : mg "len" = none) (b_str : mg "str" = none) (F : FnP K "is_name" s_is_name f fd) : FnG P w K mg base CX0 1 f fd ["thing"] (spP 1 (runP 2 m_is_name)) :=
  have nd := sc_is_name.nd
  def_pure F sc_is_name (fun cdv hv A outer s H E hg hr => PSs.nox ((pss_cons (ps_if (pw_or (pt_not (pt_tr (pe_callB call_isi (by rfl) b_isinstance boot_isinstance (pa_cons (pv 0) (pa_cons (pe_bltn (v := .ty (Ty.nm .str)) (by rfl) b_str boot_str rfl) pa_nil))))) (pw_or1 (pt_not (pt_chain (op_leW (hu64 hr)) (op_leW (hu64 hr)) pe_int (pe_callB call_lenA (by rfl) b_len boot_len (pa_cons (pv 0) pa_nil)) pe_int)))).pt (pss_one (ps_ret pe_bl)) pss_nil) (pss_one (ps_ret (pe_callB (cr_all rfl) (by rfl) b_all boot_all (pa_cons (pe_lc (own := [("letter", 1)]) (g := (gName 1)) (tt := tYes) rfl nd  (pi_any (pv 0)) (blkOk_by (N := N_is_name) (sc := defScope s_is_name) (by decide +kernel)) (fun _ _ _ _ _ => (pg_name (i := 1) nd rfl (by first | exact Or.inl rfl | exact Or.inr rfl))) (fun _ _ _ _ _ => pts_nil) (fun _ _ _ _ _ => (pe_chain (op_leW (hu64 hr)) (op_leW (hu64 hr)) pe_str (pv 1) pe_str))) pa_nil))))))) (ss_is_name K)
theorem ok_is_name_pair [Gd] {P : Program} {w : World} {K : PySem.W.Frag} {mg : Str → Option Value} {base : Heap} {f : Addr} {fd : FuncData} {f_is_pair : Addr} {fd_is_pair : FuncData} (C_is_pair : Cal P w K mg base "is_pair" 1 ["thing"] (spP 1 (runP 1 m_is_pair)) f_is_pair fd_is_pair) {f_is_name : Addr} {fd_is_name : FuncData} (C_is_name : Cal P w K mg base "is_name" 1 ["thing"] (spP 1 (runP 2 m_is_name)) f_is_name fd_is_name) (F : FnP K "is_name_pair" s_is_name_pair f fd) : FnG P w K mg base CX0 2 f fd ["thing"] (spP 1 (runP 1 m_is_name_pair)) :=
  have nd := sc_is_name_pair.nd
  def_pure F sc_is_name_pair (fun cdv hv A outer s H E hg hr => PSs.nox ((pss_one (ps_ret (pe_andT (pe_calC C_is_pair hg hr (by decide) (by rfl) (pa_cons (pv 0) pa_nil)) (pe_andT (pe_calC C_is_name hg hr (by decide) (by rfl) (pa_cons (pe_ix (ix_A (hu64 hr)) (pv 0) pe_int (fun _ _ => rfl)) pa_nil)) (pe_one (pe_calC C_is_name hg hr (by decide) (by rfl) (pa_cons (pe_ix (ix_A (hu64 hr)) (pv 0) pe_int (fun _ _ => rfl)) pa_nil))))))))) (ss_is_name_pair K)
theorem ok_is_houses [Gd] {P : Program} {w : World} {K : PySem.W.Frag} {mg : Str → Option Value} {base : Heap} {f : Addr} {fd : FuncData} (b_all : mg "all" = none) (b_isinstance : mg "isinstance" = none) (b_tuple : mg "tuple" = none) {f_is_ascending : Addr} {fd_is_ascending : FuncData} (C_is_ascending : Cal P w K mg base "is_ascending" 1 ["values"] (spP 1 (runP 3 m_is_ascending)) f_is_ascending fd_is_ascending) {f_is_name : Addr} {fd_is_name : FuncData} (C_is_name : Cal P w K mg base "is_name" 1 ["thing"] (spP 1 (runP 2 m_is_name)) f_is_name fd_is_name) (F : FnP K "is_houses" s_is_houses f fd) : FnG P w K mg base CX0 2 f fd ["thing"] (spP 1 (runP 2 m_is_houses)) :=
  have nd := sc_is_houses.nd
  def_pure F sc_is_houses (fun cdv hv A outer s H E hg hr => PSs.nox ((pss_cons (ps_if (pw_or (pt_not (pt_tr (pe_callB call_isi (by rfl) b_isinstance boot_isinstance (pa_cons (pv 0) (pa_cons (pe_bltn (v := .ty (Ty.nm .tuple)) (by rfl) b_tuple boot_tuple rfl) pa_nil))))) (pw_or1 (pt_not (pt_tr (pv 0))))).pt (pss_one (ps_ret pe_bl)) pss_nil) (pss_one (ps_ret (pe_andT (pe_callB (cr_all rfl) (by rfl) b_all boot_all (pa_cons (pe_lc (own := [("name", 1)]) (g := (gName 1)) (tt := tYes) rfl nd  (pi_any (pv 0)) (blkOk_by (N := N_is_houses) (sc := defScope s_is_houses) (by decide +kernel)) (fun _ _ _ _ _ => (pg_name (i := 1) nd rfl (by first | exact Or.inl rfl | exact Or.inr rfl))) (fun _ _ _ _ _ => pts_nil) (fun _ _ _ _ _ => (pe_calC C_is_name hg hr (by decide) (by rfl) (pa_cons (pv 1) pa_nil)))) pa_nil)) (pe_one (pe_calC C_is_ascending hg hr (by decide) (by rfl) (pa_cons (pv 0) pa_nil))))))))) (ss_is_houses K)
theorem ok_is_wire [Gd] {P : Program} {w : World} {K : PySem.W.Frag} {mg : Str → Option Value} {base : Heap} {f : Addr} {fd : FuncData} {f_is_name_pair : Addr} {fd_is_name_pair : FuncData} (C_is_name_pair : Cal P w K mg base "is_name_pair" 2 ["thing"] (spP 1 (runP 1 m_is_name_pair)) f_is_name_pair fd_is_name_pair) (F : FnP K "is_wire" s_is_wire f fd) : FnG P w K mg base CX0 3 f fd ["thing"] (spP 1 (runP 1 m_is_wire)) :=
  have nd := sc_is_wire.nd
  def_pure F sc_is_wire (fun cdv hv A outer s H E hg hr => PSs.nox ((pss_one (ps_ret (pe_andT (pe_calC C_is_name_pair hg hr (by decide) (by rfl) (pa_cons (pv 0) pa_nil)) (pe_one (pe_cmpR (op_neU (hu64 hr)) (pe_ix (ix_A (hu64 hr)) (pv 0) pe_int (fun _ _ => rfl)) (pe_ix (ix_A (hu64 hr)) (pv 0) pe_int (fun _ _ => rfl)) (nomark _)))))))) (ss_is_wire K)
theorem ok_is_set_among [Gd] {P : Program} {w : World} {K : PySem.W.Frag} {mg : Str → Option Value} {base : Heap} {f : Addr} {fd : FuncData} (b_all : mg "all" = none) {f_is_houses : Addr} {fd_is_houses : FuncData} (C_is_houses : Cal P w K mg base "is_houses" 2 ["thing"] (spP 1 (runP 2 m_is_houses)) f_is_houses fd_is_houses) (F : FnP K "is_set_among" s_is_set_among f fd) : FnG P w K mg base CX0 3 f fd ["thing", "houses"] (spP 2 (runP 3 m_is_set_among)) :=
  have nd := sc_is_set_among.nd
  def_pure F sc_is_set_among (fun cdv hv A outer s H E hg hr => PSs.nox ((pss_one (ps_ret (pe_andT (pe_calC C_is_houses hg hr (by decide) (by rfl) (pa_cons (pv 0) pa_nil)) (pe_one (pe_callB (cr_all rfl) (by rfl) b_all boot_all (pa_cons (pe_lc (own := [("house", 2)]) (g := (gName 2)) (tt := tYes) rfl nd  (pi_any (pv 0)) (blkOk_by (N := N_is_set_among) (sc := defScope s_is_set_among) (by decide +kernel)) (fun _ _ _ _ _ => (pg_name (i := 2) nd rfl (by first | exact Or.inl rfl | exact Or.inr rfl))) (fun _ _ _ _ _ => pts_nil) (fun _ _ _ _ _ => (pe_cmpR (op_inA (hu65 hr)) (pv 2) (pv 1) (by with_unfolding_all rfl)))) pa_nil)))))))) (ss_is_set_among K)
theorem ok_is_wire_among [Gd] {P : Program} {w : World} {K : PySem.W.Frag} {mg : Str → Option Value} {base : Heap} {f : Addr} {fd : FuncData} {f_is_wire : Addr} {fd_is_wire : FuncData} (C_is_wire : Cal P w K mg base "is_wire" 3 ["thing"] (spP 1 (runP 1 m_is_wire)) f_is_wire fd_is_wire) (F : FnP K "is_wire_among" s_is_wire_among f fd) : FnG P w K mg base CX0 4 f fd ["thing", "houses"] (spP 2 (runP 2 m_is_wire_among)) :=
  have nd := sc_is_wire_among.nd
  def_pure F sc_is_wire_among (fun cdv hv A outer s H E hg hr => PSs.nox ((pss_one (ps_ret (pe_andT (pe_calC C_is_wire hg hr (by decide) (by rfl) (pa_cons (pv 0) pa_nil)) (pe_andT (pe_cmpR (op_inA (hu65 hr)) (pe_ix (ix_A (hu64 hr)) (pv 0) pe_int (fun _ _ => rfl)) (pv 1) (by with_unfolding_all rfl)) (pe_one (pe_cmpR (op_inA (hu65 hr)) (pe_ix (ix_A (hu64 hr)) (pv 0) pe_int (fun _ _ => rfl)) (pv 1) (by with_unfolding_all rfl))))))))) (ss_is_wire_among K)
end
end H18

namespace H18
noncomputable section
open PySem PySem.Spec PyProof.Rows L2 RZ AP
variable [Tbls]
theorem ok_lets_net [Gd] {P : Program} {w : World} {K : PySem.W.Frag} {mg : Str → Option Value} {base : Heap} {f : Addr} {fd : FuncData} (b_enumerate : mg "enumerate" = none) (b_isinstance : mg "isinstance" = none) (b_len : mg "len" = none) (b_tuple : mg "tuple" = none) {f_is_pair : Addr} {fd_is_pair : FuncData} (C_is_pair : Cal P w K mg base "is_pair" 1 ["thing"] (spP 1 (runP 1 m_is_pair)) f_is_pair fd_is_pair) {f_is_houses : Addr} {fd_is_houses : FuncData} (C_is_houses : Cal P w K mg base "is_houses" 2 ["thing"] (spP 1 (runP 2 m_is_houses)) f_is_houses fd_is_houses) {f_is_wire_among : Addr} {fd_is_wire_among : FuncData} (C_is_wire_among : Cal P w K mg base "is_wire_among" 4 ["thing", "houses"] (spP 2 (runP 2 m_is_wire_among)) f_is_wire_among fd_is_wire_among) (F : FnP K "lets_net" s_lets_net f fd) : FnG P w K mg base CX0 5 f fd ["thing"] (spP 1 (runP 7 m_lets_net)) :=
  have nd := sc_lets_net.nd
  def_pure F sc_lets_net (fun cdv hv A outer s H E hg hr => PSs.nox ((pss_cons (ps_if (pt_not (pt_tr (pe_calC C_is_pair hg hr (by decide) (by rfl) (pa_cons (pv 0) pa_nil)))) (pss_one ps_never) pss_nil) (pss_cons (ps_asg (pv 0) (pg_ei rfl (pgs_cons (pg_name (i := 2) nd rfl (Or.inl rfl)) (pgs_cons (pg_name (i := 3) nd rfl (Or.inl rfl)) pgs_nil)))) (pss_cons (ps_if (pt_not (pt_tr (pe_calC C_is_houses hg hr (by decide) (by rfl) (pa_cons (pv 2) pa_nil)))) (pss_one ps_never) pss_nil) (pss_cons (ps_if (pt_not (pt_tr (pe_callB call_isi (by rfl) b_isinstance boot_isinstance (pa_cons (pv 3) (pa_cons (pe_bltn (v := .ty (Ty.nm .tuple)) (by rfl) b_tuple boot_tuple rfl) pa_nil))))) (pss_one ps_never) pss_nil) (pss_cons (ps_setDc (i := 1) (own := [("house", 6)]) (g := (gName 6)) (tt := tYes) rfl nd rfl rfl (swD_true rfl rfl rfl (by decide +kernel)) (pi_any (pv 2)) (blkOk_by (N := N_lets_net) (sc := defScope s_lets_net) (by decide +kernel)) (fun _ _ _ _ _ => (pg_name (i := 6) nd rfl (by first | exact Or.inl rfl | exact Or.inr rfl))) (fun _ _ _ _ _ => pts_nil) (fun _ _ _ _ _ => (pv 6)) (fun _ _ _ _ _ => pe_bl)) (pss_cons (ps_for PassesOwn.never rfl (pi_enA (by rfl) b_enumerate (pa_cons (pv 3) pa_nil)) (pg_tup rfl (pgs_cons (pg_name (i := 4) nd rfl (Or.inl rfl)) (pgs_cons (pg_name (i := 5) nd rfl (Or.inl rfl)) pgs_nil))) (pss_one (ps_if (pt_not (pt_tr (pe_calC C_is_wire_among hg hr (by decide) (by rfl) (pa_cons (pv 5) (pa_cons (pv 1) pa_nil))))) (pss_one ps_never) pss_nil))) (pss_one (ps_ret (pe_callB call_lenA (by rfl) b_len boot_len (pa_cons (pv 3) pa_nil)))))))))))) (ss_lets_net K)
theorem ok_need_net [Gd] {P : Program} {w : World} {K : PySem.W.Frag} {mg : Str → Option Value} {base : Heap} {f : Addr} {fd : FuncData} {f_lets_net : Addr} {fd_lets_net : FuncData} (C_lets_net : Cal P w K mg base "lets_net" 5 ["thing"] (spP 1 (runP 7 m_lets_net)) f_lets_net fd_lets_net) (F : FnP K "need_net" s_need_net f fd) : FnG P w K mg base CX0 6 f fd ["net"] (spP 1 (runP 1 m_need_net)) :=
  have nd := sc_need_net.nd
  def_pure F sc_need_net (fun cdv hv A outer s H E hg hr => PSs.nox ((pss_one (ps_try_thru0 (pss_one (ps_expr (pe_calC C_lets_net hg hr (by decide) (by rfl) (pa_cons (pv 0) pa_nil)))))))) (ss_need_net K)
theorem ok_lets_holders [Gd] {P : Program} {w : World} {K : PySem.W.Frag} {mg : Str → Option Value} {base : Heap} {f : Addr} {fd : FuncData} (b_enumerate : mg "enumerate" = none) (b_isinstance : mg "isinstance" = none) (b_len : mg "len" = none) (b_tuple : mg "tuple" = none) {f_is_set_among : Addr} {fd_is_set_among : FuncData} (C_is_set_among : Cal P w K mg base "is_set_among" 3 ["thing", "houses"] (spP 2 (runP 3 m_is_set_among)) f_is_set_among fd_is_set_among) {f_need_net : Addr} {fd_need_net : FuncData} (C_need_net : Cal P w K mg base "need_net" 6 ["net"] (spP 1 (runP 1 m_need_net)) f_need_net fd_need_net) (F : FnP K "lets_holders" s_lets_holders f fd) : FnG P w K mg base CX0 7 f fd ["net", "thing"] (spP 2 (runP 6 m_lets_holders)) :=
  have nd := sc_lets_holders.nd
  def_pure F sc_lets_holders (fun cdv hv A outer s H E hg hr => PSs.nox ((pss_cons (ps_expr (pe_calC C_need_net hg hr (by decide) (by rfl) (pa_cons (pv 0) pa_nil))) (pss_cons (ps_if (pt_not (pt_tr (pe_callB call_isi (by rfl) b_isinstance boot_isinstance (pa_cons (pv 1) (pa_cons (pe_bltn (v := .ty (Ty.nm .tuple)) (by rfl) b_tuple boot_tuple rfl) pa_nil))))) (pss_one ps_never) pss_nil) (pss_cons (ps_setDc (i := 2) (own := [("house", 5)]) (g := (gName 5)) (tt := tYes) rfl nd rfl rfl (swD_true rfl rfl rfl (by decide +kernel)) (pi_any (pe_ix (ix_A (hu64 hr)) (pv 0) pe_int (fun _ _ => rfl))) (blkOk_by (N := N_lets_holders) (sc := defScope s_lets_holders) (by decide +kernel)) (fun _ _ _ _ _ => (pg_name (i := 5) nd rfl (by first | exact Or.inl rfl | exact Or.inr rfl))) (fun _ _ _ _ _ => pts_nil) (fun _ _ _ _ _ => (pv 5)) (fun _ _ _ _ _ => pe_bl)) (pss_cons (ps_for PassesOwn.never rfl (pi_enA (by rfl) b_enumerate (pa_cons (pv 1) pa_nil)) (pg_tup rfl (pgs_cons (pg_name (i := 3) nd rfl (Or.inl rfl)) (pgs_cons (pg_name (i := 4) nd rfl (Or.inl rfl)) pgs_nil))) (pss_one (ps_if (pt_not (pt_tr (pe_calC C_is_set_among hg hr (by decide) (by rfl) (pa_cons (pv 4) (pa_cons (pv 2) pa_nil))))) (pss_one ps_never) pss_nil))) (pss_one (ps_ret (pe_callB call_lenA (by rfl) b_len boot_len (pa_cons (pv 1) pa_nil)))))))))) (ss_lets_holders K)
theorem ok_need_holders [Gd] {P : Program} {w : World} {K : PySem.W.Frag} {mg : Str → Option Value} {base : Heap} {f : Addr} {fd : FuncData} {f_lets_holders : Addr} {fd_lets_holders : FuncData} (C_lets_holders : Cal P w K mg base "lets_holders" 7 ["net", "thing"] (spP 2 (runP 6 m_lets_holders)) f_lets_holders fd_lets_holders) (F : FnP K "need_holders" s_need_holders f fd) : FnG P w K mg base CX0 8 f fd ["net", "holders"] (spP 2 (runP 2 m_need_holders)) :=
  have nd := sc_need_holders.nd
  def_pure F sc_need_holders (fun cdv hv A outer s H E hg hr => PSs.nox ((pss_one (ps_try_thru0 (pss_one (ps_expr (pe_calC C_lets_holders hg hr (by decide) (by rfl) (pa_cons (pv 0) (pa_cons (pv 1) pa_nil))))))))) (ss_need_holders K)
theorem ok_comers_to [Gd] {P : Program} {w : World} {K : PySem.W.Frag} {mg : Str → Option Value} {base : Heap} {f : Addr} {fd : FuncData} (b_enumerate : mg "enumerate" = none) (b_list : mg "list" = none) (F : FnP K "comers_to" s_comers_to f fd) : FnG P w K mg base CX0 1 f fd ["net", "held", "giving", "piece"] (spP 4 (runP 11 m_comers_to)) :=
  have nd := sc_comers_to.nd
  def_pure F sc_comers_to (fun cdv hv A outer s H E hg hr => PSs.nox ((pss_cons (ps_setLc (i := 4) (own := [("wire", 8), ("source", 9), ("target", 10)]) (g := (gTup K 2 (gCons (gName 8) (gCons (gTup K 2 (gCons (gName 9) (gCons (gName 10) gNil))) gNil)))) (tt := (tTest (tOp (rEqU K) (tOp (rIxA K) (tVar 2) (tVar 8)) (tVar 3)))) rfl nd rfl rfl (sw_true rfl rfl rfl (by decide +kernel)) (pi_enA (by rfl) b_enumerate (pa_cons (pe_ix (ix_A (hu64 hr)) (pv 0) pe_int (fun _ _ => rfl)) pa_nil)) (blkOk_by (N := N_comers_to) (sc := defScope s_comers_to) (by decide +kernel)) (fun _ _ _ _ _ => (pg_tup rfl (pgs_cons (pg_name (i := 8) nd rfl (by first | exact Or.inl rfl | exact Or.inr rfl)) (pgs_cons (pg_tup rfl (pgs_cons (pg_name (i := 9) nd rfl (by first | exact Or.inl rfl | exact Or.inr rfl)) (pgs_cons (pg_name (i := 10) nd rfl (by first | exact Or.inl rfl | exact Or.inr rfl)) pgs_nil))) pgs_nil)))) (fun _ _ _ _ _ => (pts_one (pt_cmpR (op_eqU (hu64 hr)) (pe_ix (ix_A (hu64 hr)) (pv 2) (pv 8) (fun _ _ => rfl)) (pv 3) (nomark _)))) (fun _ _ _ _ _ => (pe_tupF (pa_cons (pv 8) (pa_cons (pv 9) (pa_cons (pv 10) pa_nil)))))) (pss_cons (ps_setDc (i := 5) (own := [("house", 7)]) (g := (gName 7)) (tt := tYes) rfl nd rfl rfl (swD_true rfl rfl rfl (by decide +kernel)) (pi_any (pv 1)) (blkOk_by (N := N_comers_to) (sc := defScope s_comers_to) (by decide +kernel)) (fun _ _ _ _ _ => (pg_name (i := 7) nd rfl (by first | exact Or.inl rfl | exact Or.inr rfl))) (fun _ _ _ _ _ => pts_nil) (fun _ _ _ _ _ => (pv 7)) (fun _ _ _ _ _ => (pe_un un_neg pe_int))) (pss_cons (ps_set (i := 6) nd rfl (Or.inl rfl) (pe_callTy call_list_of (by rfl) b_list boot_list (pa_cons (pv 1) pa_nil))) (pss_cons (ps_while PassesOwn.never (pt_tr (pv 6)) (pss_cons (ps_set (i := 7) nd rfl (Or.inl rfl) (pe_bm0 PySem.F.plainAttrs_list PySem.F.slot_list_pop PySem.F.type_list_pop mt_pop (pv 6))) (pss_one (ps_for PassesOwn.never rfl (pi_any (pv 4)) (pg_tup rfl (pgs_cons (pg_name (i := 8) nd rfl (Or.inl rfl)) (pgs_cons (pg_name (i := 9) nd rfl (Or.inl rfl)) (pgs_cons (pg_name (i := 10) nd rfl (Or.inl rfl)) pgs_nil)))) (pss_one (ps_if (pw_and (pt_cmpR (op_eqU (hu64 hr)) (pv 9) (pv 7) (nomark _)) (pw_and1 (pt_cmpR (op_notInA (hu65 hr)) (pv 10) (pv 5) (by with_unfolding_all rfl)))).pt (pss_cons (ps_dput (hu1 hr) (pv 5) (pv 10) (pv 8) rfl) (pss_one (ps_expr (pe_bm PySem.F.plainAttrs_list PySem.F.slot_list_append PySem.F.type_list_append mt_append (pv 6) (pa_cons (pv 10) pa_nil))))) pss_nil)))))) (pss_one (ps_ret (pv 5))))))))) (ss_comers_to K)
theorem ok_comers [Gd] {P : Program} {w : World} {K : PySem.W.Frag} {mg : Str → Option Value} {base : Heap} {f : Addr} {fd : FuncData} (b_enumerate : mg "enumerate" = none) {f_comers_to : Addr} {fd_comers_to : FuncData} (C_comers_to : Cal P w K mg base "comers_to" 1 ["net", "held", "giving", "piece"] (spP 4 (runP 11 m_comers_to)) f_comers_to fd_comers_to) (F : FnP K "comers" s_comers f fd) : FnG P w K mg base CX0 2 f fd ["net", "holders", "giving"] (spP 3 (runP 5 m_comers)) :=
  have nd := sc_comers.nd
  def_pure F sc_comers (fun cdv hv A outer s H E hg hr => PSs.nox ((pss_one (ps_ret (pe_lc (own := [("piece", 3), ("held", 4)]) (g := (gTup K 2 (gCons (gName 3) (gCons (gName 4) gNil)))) (tt := tYes) rfl nd  (pi_enA (by rfl) b_enumerate (pa_cons (pv 1) pa_nil)) (blkOk_by (N := N_comers) (sc := defScope s_comers) (by decide +kernel)) (fun _ _ _ _ _ => (pg_tup rfl (pgs_cons (pg_name (i := 3) nd rfl (by first | exact Or.inl rfl | exact Or.inr rfl)) (pgs_cons (pg_name (i := 4) nd rfl (by first | exact Or.inl rfl | exact Or.inr rfl)) pgs_nil)))) (fun _ _ _ _ _ => pts_nil) (fun _ _ _ _ _ => (pe_calC C_comers_to hg hr (by decide) (by rfl) (pa_cons (pv 0) (pa_cons (pv 4) (pa_cons (pv 2) (pa_cons (pv 3) pa_nil))))))))))) (ss_comers K)
end
end H18

namespace H18
noncomputable section
open PySem PySem.Spec PyProof.Rows L2 RZ AP
variable [Tbls]
theorem ok_lets_giving [Gd] {P : Program} {w : World} {K : PySem.W.Frag} {mg : Str → Option Value} {base : Heap} {f : Addr} {fd : FuncData} (b_enumerate : mg "enumerate" = none) (b_isinstance : mg "isinstance" = none) (b_len : mg "len" = none) (b_tuple : mg "tuple" = none) {f_is_integer : Addr} {fd_is_integer : FuncData} (C_is_integer : Cal P w K mg base "is_integer" 1 ["thing"] (spP 1 (runP 1 m_is_integer)) f_is_integer fd_is_integer) {f_need_holders : Addr} {fd_need_holders : FuncData} (C_need_holders : Cal P w K mg base "need_holders" 8 ["net", "holders"] (spP 2 (runP 2 m_need_holders)) f_need_holders fd_need_holders) {f_comers : Addr} {fd_comers : FuncData} (C_comers : Cal P w K mg base "comers" 2 ["net", "holders", "giving"] (spP 3 (runP 5 m_comers)) f_comers fd_comers) (F : FnP K "lets_giving" s_lets_giving f fd) : FnG P w K mg base CX0 9 f fd ["net", "holders", "thing"] (spP 3 (runP 7 m_lets_giving)) :=
  have nd := sc_lets_giving.nd
  def_pure F sc_lets_giving (fun cdv hv A outer s H E hg hr => PSs.nox ((pss_cons (ps_expr (pe_calC C_need_holders hg hr (by decide) (by rfl) (pa_cons (pv 0) (pa_cons (pv 1) pa_nil)))) (pss_cons (ps_set (i := 3) nd rfl (Or.inl rfl) (pe_ix (ix_A (hu64 hr)) (pv 0) pe_int (fun _ _ => rfl))) (pss_cons (ps_if (pw_or (pt_not (pt_tr (pe_callB call_isi (by rfl) b_isinstance boot_isinstance (pa_cons (pv 2) (pa_cons (pe_bltn (v := .ty (Ty.nm .tuple)) (by rfl) b_tuple boot_tuple rfl) pa_nil))))) (pw_or1 (pt_cmpR (op_neU (hu64 hr)) (pe_callB call_lenA (by rfl) b_len boot_len (pa_cons (pv 2) pa_nil)) (pe_callB call_lenA (by rfl) b_len boot_len (pa_cons (pv 3) pa_nil)) (nomark _)))).pt (pss_one ps_never) pss_nil) (pss_cons (ps_for PassesOwn.never rfl (pi_enA (by rfl) b_enumerate (pa_cons (pv 2) pa_nil)) (pg_tup rfl (pgs_cons (pg_name (i := 5) nd rfl (Or.inl rfl)) (pgs_cons (pg_name (i := 6) nd rfl (Or.inl rfl)) pgs_nil))) (pss_one (ps_if (pw_or (pt_not (pt_tr (pe_calC C_is_integer hg hr (by decide) (by rfl) (pa_cons (pv 6) pa_nil)))) (pw_or1 (pt_not (pt_chain (op_leW (hu64 hr)) (op_ltW (hu64 hr)) (pe_un un_neg pe_int) (pv 6) (pe_callB call_lenA (by rfl) b_len boot_len (pa_cons (pv 1) pa_nil)))))).pt (pss_one ps_never) pss_nil))) (pss_cons (ps_set (i := 4) nd rfl (Or.inl rfl) (pe_calC C_comers hg hr (by decide) (by rfl) (pa_cons (pv 0) (pa_cons (pv 1) (pa_cons (pv 2) pa_nil))))) (pss_cons (ps_for PassesOwn.never rfl (pi_enA (by rfl) b_enumerate (pa_cons (pv 2) pa_nil)) (pg_tup rfl (pgs_cons (pg_name (i := 5) nd rfl (Or.inl rfl)) (pgs_cons (pg_name (i := 6) nd rfl (Or.inl rfl)) pgs_nil))) (pss_one (ps_if (pw_and (pt_cmpR (op_neU (hu64 hr)) (pv 6) (pe_un un_neg pe_int) (nomark _)) (pw_and1 (pt_cmpR (op_notInA (hu65 hr)) (pe_ix (ix_A (hu64 hr)) (pe_ix (ix_A (hu64 hr)) (pv 3) (pv 5) (fun _ _ => rfl)) pe_int (fun _ _ => rfl)) (pe_ix (ix_A (hu64 hr)) (pv 4) (pv 6) (fun _ _ => rfl)) (by with_unfolding_all rfl)))).pt (pss_one ps_never) pss_nil))) (pss_one (ps_ret (pe_op op_sub (pe_callB call_lenA (by rfl) b_len boot_len (pa_cons (pv 2) pa_nil)) (pe_count (hu65 hr) (pv 2) (pe_un un_neg pe_int))))))))))))) (ss_lets_giving K)
theorem ok_need_giving [Gd] {P : Program} {w : World} {K : PySem.W.Frag} {mg : Str → Option Value} {base : Heap} {f : Addr} {fd : FuncData} {f_lets_giving : Addr} {fd_lets_giving : FuncData} (C_lets_giving : Cal P w K mg base "lets_giving" 9 ["net", "holders", "thing"] (spP 3 (runP 7 m_lets_giving)) f_lets_giving fd_lets_giving) (F : FnP K "need_giving" s_need_giving f fd) : FnG P w K mg base CX0 10 f fd ["net", "holders", "giving"] (spP 3 (runP 3 m_need_giving)) :=
  have nd := sc_need_giving.nd
  def_pure F sc_need_giving (fun cdv hv A outer s H E hg hr => PSs.nox ((pss_one (ps_try_thru0 (pss_one (ps_expr (pe_calC C_lets_giving hg hr (by decide) (by rfl) (pa_cons (pv 0) (pa_cons (pv 1) (pa_cons (pv 2) pa_nil)))))))))) (ss_need_giving K)
theorem ok_having [Gd] {P : Program} {w : World} {K : PySem.W.Frag} {mg : Str → Option Value} {base : Heap} {f : Addr} {fd : FuncData} (b_sorted : mg "sorted" = none) (b_tuple : mg "tuple" = none) {f_comers : Addr} {fd_comers : FuncData} (C_comers : Cal P w K mg base "comers" 2 ["net", "holders", "giving"] (spP 3 (runP 5 m_comers)) f_comers fd_comers) {f_need_giving : Addr} {fd_need_giving : FuncData} (C_need_giving : Cal P w K mg base "need_giving" 10 ["net", "holders", "giving"] (spP 3 (runP 3 m_need_giving)) f_need_giving fd_need_giving) (F : FnP K "having" s_having f fd) : FnG P w K mg base CX0 11 f fd ["net", "holders", "giving"] (spP 3 (runP 4 m_having)) :=
  have nd := sc_having.nd
  def_pure F sc_having (fun cdv hv A outer s H E hg hr => PSs.nox ((pss_cons (ps_expr (pe_calC C_need_giving hg hr (by decide) (by rfl) (pa_cons (pv 0) (pa_cons (pv 1) (pa_cons (pv 2) pa_nil))))) (pss_one (ps_ret (pe_callTy call_tupleF (by rfl) b_tuple boot_tuple (pa_cons (pe_lc (own := [("found", 3)]) (g := (gName 3)) (tt := tYes) rfl nd  (pi_any (pe_calC C_comers hg hr (by decide) (by rfl) (pa_cons (pv 0) (pa_cons (pv 1) (pa_cons (pv 2) pa_nil))))) (blkOk_by (N := N_having) (sc := defScope s_having) (by decide +kernel)) (fun _ _ _ _ _ => (pg_name (i := 3) nd rfl (by first | exact Or.inl rfl | exact Or.inr rfl))) (fun _ _ _ _ _ => pts_nil) (fun _ _ _ _ _ => (pe_callTy call_tupleF (by rfl) b_tuple boot_tuple (pa_cons (pe_callB (cr_sortX rfl (hu64 hr)) (by rfl) b_sorted boot_sorted (pa_cons (pv 3) pa_nil)) pa_nil)))) pa_nil))))))) (ss_having K)
theorem ok__is_idle [Gd] {P : Program} {w : World} {K : PySem.W.Frag} {mg : Str → Option Value} {base : Heap} {f : Addr} {fd : FuncData} (b_len : mg "len" = none) {f_comers_to : Addr} {fd_comers_to : FuncData} (C_comers_to : Cal P w K mg base "comers_to" 1 ["net", "held", "giving", "piece"] (spP 4 (runP 11 m_comers_to)) f_comers_to fd_comers_to) (F : FnP K "_is_idle" s__is_idle f fd) : FnG P w K mg base CX0 2 f fd ["net", "holders", "giving", "wire"] (spP 4 (runP 7 m__is_idle)) :=
  have nd := sc__is_idle.nd
  def_pure F sc__is_idle (fun cdv hv A outer s H E hg hr => PSs.nox ((pss_cons (ps_set (i := 4) nd rfl (Or.inl rfl) (pe_ix (ix_A (hu64 hr)) (pv 2) (pv 3) (fun _ _ => rfl))) (pss_cons (ps_set (i := 5) nd rfl (Or.inl rfl) (pe_tupF (StX.pa_star (pe_slice sl_U (pv 2) po_none (po_some (pv 3))) (pa_cons (pe_un un_neg pe_int) (StX.pa_star (pe_slice sl_U (pv 2) (po_some (pe_op op_addU (pv 3) pe_int)) po_none) pa_nil))))) (pss_cons (ps_set (i := 6) nd rfl (Or.inl rfl) (pe_ix (ix_A (hu64 hr)) (pv 1) (pv 4) (fun _ _ => rfl))) (pss_one (ps_ret (pe_cmpR (op_eqU (hu64 hr)) (pe_callB call_lenA (by rfl) b_len boot_len (pa_cons (pe_calC C_comers_to hg hr (by decide) (by rfl) (pa_cons (pv 0) (pa_cons (pv 6) (pa_cons (pv 5) (pa_cons (pv 4) pa_nil))))) pa_nil)) (pe_callB call_lenA (by rfl) b_len boot_len (pa_cons (pe_calC C_comers_to hg hr (by decide) (by rfl) (pa_cons (pv 0) (pa_cons (pv 6) (pa_cons (pv 2) (pa_cons (pv 4) pa_nil))))) pa_nil)) (nomark _))))))))) (ss__is_idle K)
theorem ok_idle_wires [Gd] {P : Program} {w : World} {K : PySem.W.Frag} {mg : Str → Option Value} {base : Heap} {f : Addr} {fd : FuncData} (b_enumerate : mg "enumerate" = none) (b_tuple : mg "tuple" = none) {f_need_giving : Addr} {fd_need_giving : FuncData} (C_need_giving : Cal P w K mg base "need_giving" 10 ["net", "holders", "giving"] (spP 3 (runP 3 m_need_giving)) f_need_giving fd_need_giving) {f__is_idle : Addr} {fd__is_idle : FuncData} (C__is_idle : Cal P w K mg base "_is_idle" 2 ["net", "holders", "giving", "wire"] (spP 4 (runP 7 m__is_idle)) f__is_idle fd__is_idle) (F : FnP K "idle_wires" s_idle_wires f fd) : FnG P w K mg base CX0 11 f fd ["net", "holders", "giving"] (spP 3 (runP 6 m_idle_wires)) :=
  have nd := sc_idle_wires.nd
  def_pure F sc_idle_wires (fun cdv hv A outer s H E hg hr => PSs.nox ((pss_cons (ps_expr (pe_calC C_need_giving hg hr (by decide) (by rfl) (pa_cons (pv 0) (pa_cons (pv 1) (pa_cons (pv 2) pa_nil))))) (pss_cons (ps_setLc (i := 3) (own := [("wire", 4), ("piece", 5)]) (g := (gTup K 2 (gCons (gName 4) (gCons (gName 5) gNil)))) (tt := (tTest (tOp (rNeU K) (tVar 5) (tUn rNeg (tC (.int 1)))))) rfl nd rfl rfl (sw_true rfl rfl rfl (by decide +kernel)) (pi_enA (by rfl) b_enumerate (pa_cons (pv 2) pa_nil)) (blkOk_by (N := N_idle_wires) (sc := defScope s_idle_wires) (by decide +kernel)) (fun _ _ _ _ _ => (pg_tup rfl (pgs_cons (pg_name (i := 4) nd rfl (by first | exact Or.inl rfl | exact Or.inr rfl)) (pgs_cons (pg_name (i := 5) nd rfl (by first | exact Or.inl rfl | exact Or.inr rfl)) pgs_nil)))) (fun _ _ _ _ _ => (pts_one (pt_cmpR (op_neU (hu64 hr)) (pv 5) (pe_un un_neg pe_int) (nomark _)))) (fun _ _ _ _ _ => (pv 4))) (pss_one (ps_ret (pe_callTy call_tupleF (by rfl) b_tuple boot_tuple (pa_cons (pe_lc (own := [("wire", 4)]) (g := (gName 4)) (tt := (tTr K (tCall (spP 4 (runP 7 m__is_idle)) [] E0 (tCons (tVar 0) (tCons (tVar 1) (tCons (tVar 2) (tCons (tVar 4) tNil))))))) rfl nd  (pi_any (pv 3)) (blkOk_by (N := N_idle_wires) (sc := defScope s_idle_wires) (by decide +kernel)) (fun _ _ _ _ _ => (pg_name (i := 4) nd rfl (by first | exact Or.inl rfl | exact Or.inr rfl))) (fun _ _ _ _ _ => (pts_one (pt_tr (pe_calC C__is_idle hg hr (by decide) (by rfl) (pa_cons (pv 0) (pa_cons (pv 1) (pa_cons (pv 2) (pa_cons (pv 4) pa_nil)))))))) (fun _ _ _ _ _ => (pv 4))) pa_nil)))))))) (ss_idle_wires K)
end
end H18

namespace H18
noncomputable section
open PySem PySem.Spec PyProof.Rows L2 RZ AP
variable [Tbls]
theorem ok__law_feed {P : Program} {w : World} {K : PySem.W.Frag} {mg : Str → Option Value} {base : Heap} {f : Addr} {fd : FuncData} (b_int : mg "int" = none) (F : FnP K "_law_feed" s__law_feed f fd) : FnG P w K mg base CX0 1 f fd ["_law_script"] (spFeedK (Str.ofString "spot") (Str.ofString "left") (Str.ofString "drawn") K) :=
  have nd := sc__law_feed.nd
  def_feedK (by decide +kernel) F sc__law_feed rfl fun cdv hv A outer s H E hg hr => PSs.nox (pss_one (ps_ret (pe_disp (pps_cons pe_str (pe_lc (own := [("_law_one", 1)]) (g := gName 1) (tt := tYes) rfl nd (pi_list (pe_slice sl_list (pv 0) po_none (po_some pe_int))) (blkOk_by (N := N__law_feed) (sc := defScope s__law_feed) (by decide +kernel)) (fun _ _ _ _ _ => pg_name (i := 1) nd rfl (Or.inl rfl)) (fun _ _ _ _ _ => pts_nil) (fun _ _ _ _ _ => pe_callTy call_int1 (by rfl) b_int boot_int (pa_cons (pv 1) pa_nil))) (pps_cons pe_str pe_int (pps_cons pe_str pe_int (pps_cons pe_str pe_int pps_nil)))) rfl rfl (by simp) (by decide))))
theorem ok__law_draw {P : Program} {w : World} {K : PySem.W.Frag} {mg : Str → Option Value} {base : Heap} {f : Addr} {fd : FuncData} (b_int : mg "int" = none) (b_len : mg "len" = none) (F : FnP K "_law_draw" s__law_draw f fd) : FnG P w K mg base CX0 1 f fd ["_law_feed_here", "_law_many"] (spF 2 (runF 7 m__law_draw)) :=
  have nd := sc__law_draw.nd
  def_feed F sc__law_draw (fun cdv hv A outer s H E hg hr => PSs.nox ((pss_cons (ps_dput (hu1 hr) (pv 0) pe_str (pe_op op_addU (pe_ix (ix_A (hu64 hr)) (pv 0) pe_str (fun _ _ => rfl)) pe_int) rfl) (pss_cons (ps_if (pt_cmpR op_gtU (pe_ix (ix_A (hu64 hr)) (pv 0) pe_str (fun _ _ => rfl)) pe_int (nomark _)) (pss_cons (ps_set (i := 4) nd rfl (Or.inl rfl) (pe_op op_mod (pe_callTy call_int1 (by rfl) b_int boot_int (pa_cons (pe_ix (ix_A (hu64 hr)) (pv 0) pe_str (fun _ _ => rfl)) pa_nil)) (pv 1))) (pss_cons (ps_dput (hu1 hr) (pv 0) pe_str (pe_op op_fdiv (pe_ix (ix_A (hu64 hr)) (pv 0) pe_str (fun _ _ => rfl)) (pv 1)) rfl) (pss_one (ps_ret (pv 4))))) pss_nil) (pss_cons (ps_par (i := 5) (j := 6) rfl nd rfl rfl (by decide) rfl rfl (pa_cons (pe_ix (ix_A (hu64 hr)) (pv 0) pe_str (fun _ _ => rfl)) (pa_cons (pe_ix (ix_A (hu64 hr)) (pv 0) pe_str (fun _ _ => rfl)) pa_nil)) (by rfl)) (pss_cons (ps_dput (hu1 hr) (pv 0) pe_str (pe_op op_addU (pv 6) pe_int) rfl) (pss_cons (ps_set (i := 2) nd rfl (Or.inl rfl) (pe_ifExp (pt_cmpR (op_neU (hu64 hr)) (pv 5) (pe_lst pa_nil) (nomark _)) (pe_ix (ix_A (hu64 hr)) (pv 5) (pe_op op_mod (pe_callTy call_int1 (by rfl) b_int boot_int (pa_cons (pv 6) pa_nil)) (pe_callB call_lenA (by rfl) b_len boot_len (pa_cons (pv 5) pa_nil))) (fun _ _ => rfl)) pe_int)) (pss_cons (ps_if (pw_and (pt_cmpR op_geU (pv 2) (pe_op op_pow pe_int pe_int) (nomark _)) (pw_and1 (pt_cmpR op_ltU (pv 6) (pe_callB call_lenA (by rfl) b_len boot_len (pa_cons (pv 5) pa_nil)) (nomark _)))).pt (pss_cons (ps_dput (hu1 hr) (pv 0) pe_str (pe_op op_fdiv (pv 2) (pv 1)) rfl) (pss_one (ps_ret (pe_op op_mod (pe_callTy call_int1 (by rfl) b_int boot_int (pa_cons (pv 2) pa_nil)) (pv 1))))) pss_nil) (pss_cons (ps_set (i := 3) nd rfl (Or.inl rfl) (pe_op op_mod (pe_callTy call_int1 (by rfl) b_int boot_int (pa_cons (pe_op op_addU (pe_op op_addU (pe_op op_mod (pe_callTy call_int1 (by rfl) b_int boot_int (pa_cons (pv 2) pa_nil)) pe_int) (pe_op op_mul pe_int (pe_ix (ix_A (hu64 hr)) (pv 0) pe_str (fun _ _ => rfl)))) pe_int) pa_nil)) pe_int)) (pss_cons (ps_set (i := 3) nd rfl (Or.inl rfl) (pe_op op_mod (pe_callTy call_int1 (by rfl) b_int boot_int (pa_cons (pe_op op_addU (pe_op op_addU (pe_op op_mul (pv 3) (pv 3)) (pe_op op_mul pe_int (pe_ix (ix_A (hu64 hr)) (pv 0) pe_str (fun _ _ => rfl)))) pe_int) pa_nil)) pe_int)) (pss_one (ps_ret (pe_op op_mod (pe_callTy call_int1 (by rfl) b_int boot_int (pa_cons (pe_op op_fdiv (pe_op op_mod (pe_callTy call_int1 (by rfl) b_int boot_int (pa_cons (pe_op op_addU (pe_op op_mul (pv 3) (pv 3)) (pe_op op_mul pe_int (pv 3))) pa_nil)) pe_int) pe_int) pa_nil)) (pv 1)))))))))))))) (ss__law_draw K)
theorem ok__law_any {P : Program} {w : World} {K : PySem.W.Frag} {mg : Str → Option Value} {base : Heap} {f : Addr} {fd : FuncData} (b_len : mg "len" = none) {f__law_draw : Addr} {fd__law_draw : FuncData} (C__law_draw : Cal P w K mg base "_law_draw" 1 ["_law_feed_here", "_law_many"] (spF 2 (runF 7 m__law_draw)) f__law_draw fd__law_draw) (F : FnP K "_law_any" s__law_any f fd) : FnG P w K mg base CX0 2 f fd ["_law_feed_here", "_law_some"] (spF 2 (runF 2 m__law_any)) :=
  have nd := sc__law_any.nd
  def_feed F sc__law_any (fun cdv hv A outer s H E hg hr => PSs.nox ((pss_one (ps_ret (pe_ix (ix_A (hu64 hr)) (pv 1) (pe_calC C__law_draw hg hr (by decide) (by rfl) (pa_cons (pv 0) (pa_cons (pe_callB call_lenA (by rfl) b_len boot_len (pa_cons (pv 1) pa_nil)) pa_nil))) (fun _ _ => rfl)))))) (ss__law_any K)
theorem ok__law_names {P : Program} {w : World} {K : PySem.W.Frag} {mg : Str → Option Value} {base : Heap} {f : Addr} {fd : FuncData} (b_len : mg "len" = none) (b_list : mg "list" = none) (b_range : mg "range" = none) {f__law_draw : Addr} {fd__law_draw : FuncData} (C__law_draw : Cal P w K mg base "_law_draw" 1 ["_law_feed_here", "_law_many"] (spF 2 (runF 7 m__law_draw)) f__law_draw fd__law_draw) {f__law_any : Addr} {fd__law_any : FuncData} (C__law_any : Cal P w K mg base "_law_any" 2 ["_law_feed_here", "_law_some"] (spF 2 (runF 2 m__law_any)) f__law_any fd__law_any) (F : FnP K "_law_names" s__law_names f fd) : FnG P w K mg base CX0 3 f fd ["_law_feed_here", "_law_many"] (spF 2 (runF 6 m__law_names)) :=
  have nd := sc__law_names.nd
  def_feed F sc__law_names (fun cdv hv A outer s H E hg hr => PSs.nox ((pss_cons (ps_set (i := 2) nd rfl (Or.inl rfl) (pe_lst (pa_cons (pe_callTy (call_listU rfl) (by rfl) b_list boot_list (pa_cons pe_str pa_nil)) pa_nil))) (pss_cons (ps_expr (pe_bm PySem.F.plainAttrs_list PySem.F.slot_list_append PySem.F.type_list_append mt_append (pv 2) (pa_cons (pe_lst (pa_cons pe_str (pa_cons pe_str (pa_cons pe_str (pa_cons pe_str (pa_cons pe_str (pa_cons pe_str (pa_cons pe_str (pa_cons pe_str (pa_cons pe_str (pa_cons pe_str (pa_cons pe_str (pa_cons pe_str pa_nil))))))))))))) pa_nil))) (pss_cons (ps_expr (pe_bm PySem.F.plainAttrs_list PySem.F.slot_list_append PySem.F.type_list_append mt_append (pv 2) (pa_cons (pe_lst (pa_cons pe_str (pa_cons pe_str (pa_cons pe_str (pa_cons pe_str (pa_cons pe_str (pa_cons pe_str (pa_cons pe_str (pa_cons pe_str (pa_cons pe_str (pa_cons pe_str (pa_cons pe_str (pa_cons pe_str pa_nil))))))))))))) pa_nil))) (pss_cons (ps_par (i := 4) (j := 5) rfl nd rfl rfl (by decide) rfl rfl (pa_cons (pe_callTy call_list_of (by rfl) b_list boot_list (pa_cons (pe_calC C__law_any hg hr (by decide) (by rfl) (pa_cons (pv 0) (pa_cons (pv 2) pa_nil))) pa_nil)) (pa_cons (pe_lst pa_nil) pa_nil)) (by rfl)) (pss_cons (ps_for PassesOwn.never rfl (pi_range1 (by rfl) b_range (pa_cons (pv 1) pa_nil)) (pg_name (i := 3) nd rfl (Or.inl rfl)) (pss_one (ps_expr (pe_bm PySem.F.plainAttrs_list PySem.F.slot_list_append PySem.F.type_list_append mt_append (pv 5) (pa_cons (pe_bm PySem.F.plainAttrs_list PySem.F.slot_list_pop PySem.F.type_list_pop mt_popAt (pv 4) (pa_cons (pe_calC C__law_draw hg hr (by decide) (by rfl) (pa_cons (pv 0) (pa_cons (pe_callB call_lenA (by rfl) b_len boot_len (pa_cons (pv 4) pa_nil)) pa_nil))) pa_nil)) pa_nil))))) (pss_one (ps_ret (pv 5)))))))))) (ss__law_names K)
theorem ok__law_grid {P : Program} {w : World} {K : PySem.W.Frag} {mg : Str → Option Value} {base : Heap} {f : Addr} {fd : FuncData} (b_len : mg "len" = none) (b_range : mg "range" = none) (b_sorted : mg "sorted" = none) (b_tuple : mg "tuple" = none) {f__law_draw : Addr} {fd__law_draw : FuncData} (C__law_draw : Cal P w K mg base "_law_draw" 1 ["_law_feed_here", "_law_many"] (spF 2 (runF 7 m__law_draw)) f__law_draw fd__law_draw) {f__law_any : Addr} {fd__law_any : FuncData} (C__law_any : Cal P w K mg base "_law_any" 2 ["_law_feed_here", "_law_some"] (spF 2 (runF 2 m__law_any)) f__law_any fd__law_any) {f__law_names : Addr} {fd__law_names : FuncData} (C__law_names : Cal P w K mg base "_law_names" 3 ["_law_feed_here", "_law_many"] (spF 2 (runF 6 m__law_names)) f__law_names fd__law_names) (F : FnP K "_law_grid" s__law_grid f fd) : FnG P w K mg base CX0 4 f fd ["_law_feed_here", "_law_most", "_law_cables"] (spF 3 (runF 9 m__law_grid)) :=
  have nd := sc__law_grid.nd
  def_feed F sc__law_grid (fun cdv hv A outer s H E hg hr => PSs.nox ((pss_cons (ps_set (i := 3) nd rfl (Or.inl rfl) (pe_ifExp (pt_cmpR op_gtU (pe_calC C__law_draw hg hr (by decide) (by rfl) (pa_cons (pv 0) (pa_cons pe_int pa_nil))) pe_int (nomark _)) (pe_calC C__law_names hg hr (by decide) (by rfl) (pa_cons (pv 0) (pa_cons (pe_op op_addU pe_int (pe_calC C__law_draw hg hr (by decide) (by rfl) (pa_cons (pv 0) (pa_cons (pe_op op_sub (pv 1) pe_int) pa_nil)))) pa_nil))) (pe_calC C__law_names hg hr (by decide) (by rfl) (pa_cons (pv 0) (pa_cons pe_int pa_nil))))) (pss_cons (ps_set (i := 4) nd rfl (Or.inl rfl) (pe_lst pa_nil)) (pss_cons (ps_for PassesOwn.never rfl (pi_range1 (by rfl) b_range (pa_cons (pe_ifExp (pt_cmpR op_gtU (pe_callB call_lenA (by rfl) b_len boot_len (pa_cons (pv 3) pa_nil)) pe_int (nomark _)) (pe_calC C__law_draw hg hr (by decide) (by rfl) (pa_cons (pv 0) (pa_cons (pe_op op_addU (pv 2) pe_int) pa_nil))) pe_int) pa_nil)) (pg_name (i := 5) nd rfl (Or.inl rfl)) (pss_cons (ps_set (i := 6) nd rfl (Or.inl rfl) (pe_calC C__law_draw hg hr (by decide) (by rfl) (pa_cons (pv 0) (pa_cons (pe_callB call_lenA (by rfl) b_len boot_len (pa_cons (pv 3) pa_nil)) pa_nil)))) (pss_cons (ps_set (i := 7) nd rfl (Or.inl rfl) (pe_tupF (pa_cons (pe_ix (ix_A (hu64 hr)) (pv 3) (pv 6) (fun _ _ => rfl)) (pa_cons (pe_ix (ix_A (hu64 hr)) (pv 3) (pe_op op_sub (pe_op op_sub (pv 6) pe_int) (pe_calC C__law_draw hg hr (by decide) (by rfl) (pa_cons (pv 0) (pa_cons (pe_op op_sub (pe_callB call_lenA (by rfl) b_len boot_len (pa_cons (pv 3) pa_nil)) pe_int) pa_nil)))) (fun _ _ => rfl)) pa_nil)))) (pss_cons (ps_set (i := 8) nd rfl (Or.inl rfl) (pe_calC C__law_draw hg hr (by decide) (by rfl) (pa_cons (pv 0) (pa_cons pe_int pa_nil)))) (pss_cons (ps_if (pw_and (pt_cmpR (op_neU (hu64 hr)) (pv 4) (pe_lst pa_nil) (nomark _)) (pw_and1 (pt_cmpR (op_eqU (hu64 hr)) (pv 8) pe_int (nomark _)))).pt (pss_one (ps_set (i := 7) nd rfl (Or.inl rfl) (pe_calC C__law_any hg hr (by decide) (by rfl) (pa_cons (pv 0) (pa_cons (pv 4) pa_nil))))) pss_nil) (pss_cons (ps_if (pw_and (pt_cmpR (op_neU (hu64 hr)) (pv 4) (pe_lst pa_nil) (nomark _)) (pw_and1 (pt_cmpR (op_eqU (hu64 hr)) (pv 8) pe_int (nomark _)))).pt (pss_one (ps_set (i := 7) nd rfl (Or.inl rfl) (pe_revW (pe_calC C__law_any hg hr (by decide) (by rfl) (pa_cons (pv 0) (pa_cons (pv 4) pa_nil)))))) pss_nil) (pss_one (ps_expr (pe_bm PySem.F.plainAttrs_list PySem.F.slot_list_append PySem.F.type_list_append mt_append (pv 4) (pa_cons (pv 7) pa_nil)))))))))) (pss_one (ps_ret (pe_tupF (pa_cons (pe_callTy call_tupleF (by rfl) b_tuple boot_tuple (pa_cons (pe_callB (cr_sortX rfl (hu64 hr)) (by rfl) b_sorted boot_sorted (pa_cons (pv 3) pa_nil)) pa_nil)) (pa_cons (pe_callTy call_tupleF (by rfl) b_tuple boot_tuple (pa_cons (pv 4) pa_nil)) pa_nil)))))))))) (ss__law_grid K)
end
end H18

namespace H18
noncomputable section
open PySem PySem.Spec PyProof.Rows L2 RZ AP
variable [Tbls]
theorem ok__law_stock {P : Program} {w : World} {K : PySem.W.Frag} {mg : Str → Option Value} {base : Heap} {f : Addr} {fd : FuncData} (b_list : mg "list" = none) (b_range : mg "range" = none) (b_set : mg "set" = none) (b_sorted : mg "sorted" = none) (b_tuple : mg "tuple" = none) {f__law_any : Addr} {fd__law_any : FuncData} (C__law_any : Cal P w K mg base "_law_any" 2 ["_law_feed_here", "_law_some"] (spF 2 (runF 2 m__law_any)) f__law_any fd__law_any) (F : FnP K "_law_stock" s__law_stock f fd) : FnG P w K mg base CX0 3 f fd ["_law_feed_here", "_law_grid_here", "_law_most"] (spF 3 (runF 7 m__law_stock)) :=
  have nd := sc__law_stock.nd
  def_feed F sc__law_stock (fun cdv hv A outer s H E hg hr => PSs.nox ((pss_cons (ps_set (i := 3) nd rfl (Or.inl rfl) (pe_lst pa_nil)) (pss_cons (ps_for PassesOwn.never rfl (pi_range1 (by rfl) b_range (pa_cons (pe_calC C__law_any hg hr (by decide) (by rfl) (pa_cons (pv 0) (pa_cons (pe_op op_addU (pe_lst (pa_cons pe_int pa_nil)) (pe_op op_mulU (pe_listRg rfl (by rfl) b_list (prg_2 (by rfl) b_range pe_int (pe_op op_addU (pv 2) pe_int))) pe_int)) pa_nil))) pa_nil)) (pg_name (i := 4) nd rfl (Or.inl rfl)) (pss_cons (ps_setLc (i := 5) (own := [("_law_turn", 6)]) (g := (gName 6)) (tt := tYes) rfl nd rfl rfl (sw_true rfl rfl rfl (by decide +kernel)) (pi_range1 (by rfl) b_range (pa_cons (pe_calC C__law_any hg hr (by decide) (by rfl) (pa_cons (pv 0) (pa_cons (pe_lst (pa_cons pe_int (pa_cons pe_int (pa_cons pe_int (pa_cons pe_int (pa_cons pe_int pa_nil)))))) pa_nil))) pa_nil)) (blkOk_by (N := N__law_stock) (sc := defScope s__law_stock) (by decide +kernel)) (fun _ _ _ _ _ => (pg_name (i := 6) nd rfl (by first | exact Or.inl rfl | exact Or.inr rfl))) (fun _ _ _ _ _ => pts_nil) (fun _ _ _ _ _ => (pe_calC C__law_any hg hr (by decide) (by rfl) (pa_cons (pv 0) (pa_cons (pe_ix (ix_A (hu64 hr)) (pv 1) pe_int (fun _ _ => rfl)) pa_nil))))) (pss_one (ps_expr (pe_bm PySem.F.plainAttrs_list PySem.F.slot_list_append PySem.F.type_list_append mt_append (pv 3) (pa_cons (pe_callTy call_tupleF (by rfl) b_tuple boot_tuple (pa_cons (pe_tSSx (pe_tSS (pe_callB (cr_sortG rfl (hu64 hr)) (by rfl) b_sorted boot_sorted (pa_cons (pe_callTy (cr_setG rfl (hu64 hr)) (by rfl) b_set boot_set (pa_cons (pv 5) pa_nil)) pa_nil))) (pe_tSSt (pe_callB (cr_sortS rfl (hu64 hr)) (by rfl) b_sorted boot_sorted (pa_cons (pe_callTy (cr_setS rfl) (by rfl) b_set boot_set (pa_cons (pv 5) pa_nil)) pa_nil)))) pa_nil)) pa_nil)))))) (pss_one (ps_ret (pe_callTy call_tupleF (by rfl) b_tuple boot_tuple (pa_cons (pv 3) pa_nil)))))))) (ss__law_stock K)
theorem ok__law_has {P : Program} {w : World} {K : PySem.W.Frag} {mg : Str → Option Value} {base : Heap} {f : Addr} {fd : FuncData} (b_enumerate : mg "enumerate" = none) (b_len : mg "len" = none) (b_list : mg "list" = none) (b_range : mg "range" = none) (b_set : mg "set" = none) (b_sorted : mg "sorted" = none) (b_tuple : mg "tuple" = none) (F : FnP K "_law_has" s__law_has f fd) : FnG P w K mg base CX0 1 f fd ["_law_grid_here", "_law_stock_here", "_law_plan_here"] (spP 3 (runP 10 m__law_has)) :=
  have nd := sc__law_has.nd
  def_pure F sc__law_has (fun cdv hv A outer s H E hg hr => PSs.nox ((pss_cons (ps_set (i := 3) nd rfl (Or.inl rfl) (pe_lst pa_nil)) (pss_cons (ps_for PassesOwn.never rfl (pi_enA (by rfl) b_enumerate (pa_cons (pv 1) pa_nil)) (pg_tup rfl (pgs_cons (pg_name (i := 4) nd rfl (Or.inl rfl)) (pgs_cons (pg_name (i := 5) nd rfl (Or.inl rfl)) pgs_nil))) (pss_cons (ps_set (i := 6) nd rfl (Or.inl rfl) (pe_callTy call_list_of (by rfl) b_list boot_list (pa_cons (pv 5) pa_nil))) (pss_cons (ps_for PassesOwn.never rfl (pi_range1 (by rfl) b_range (pa_cons (pe_callB call_lenA (by rfl) b_len boot_len (pa_cons (pe_ix (ix_A (hu64 hr)) (pv 0) pe_int (fun _ _ => rfl)) pa_nil)) pa_nil)) (pg_name (i := 7) nd rfl (Or.inl rfl)) (pss_one (ps_for PassesOwn.never rfl (pi_enA (by rfl) b_enumerate (pa_cons (pe_ix (ix_A (hu64 hr)) (pv 0) pe_int (fun _ _ => rfl)) pa_nil)) (pg_tup rfl (pgs_cons (pg_name (i := 8) nd rfl (Or.inl rfl)) (pgs_cons (pg_name (i := 9) nd rfl (Or.inl rfl)) pgs_nil))) (pss_one (ps_if (pw_and (pt_cmpR (op_eqU (hu64 hr)) (pe_ix (ix_A (hu64 hr)) (pv 2) (pv 8) (fun _ _ => rfl)) (pv 4) (nomark _)) (pw_and (pt_cmpR (op_inA (hu65 hr)) (pe_ix (ix_A (hu64 hr)) (pv 9) pe_int (fun _ _ => rfl)) (pv 6) (by with_unfolding_all rfl)) (pw_and1 (pt_cmpR (op_notInA (hu65 hr)) (pe_ix (ix_A (hu64 hr)) (pv 9) pe_int (fun _ _ => rfl)) (pv 6) (by with_unfolding_all rfl))))).pt (pss_one (ps_expr (pe_bm PySem.F.plainAttrs_list PySem.F.slot_list_append PySem.F.type_list_append mt_append (pv 6) (pa_cons (pe_ix (ix_A (hu64 hr)) (pv 9) pe_int (fun _ _ => rfl)) pa_nil)))) pss_nil))))) (pss_one (ps_expr (pe_bm PySem.F.plainAttrs_list PySem.F.slot_list_append PySem.F.type_list_append mt_append (pv 3) (pa_cons (pe_callTy call_tupleF (by rfl) b_tuple boot_tuple (pa_cons (pe_tSSx (pe_tSS (pe_callB (cr_sortG rfl (hu64 hr)) (by rfl) b_sorted boot_sorted (pa_cons (pe_callTy (cr_setG rfl (hu64 hr)) (by rfl) b_set boot_set (pa_cons (pv 6) pa_nil)) pa_nil))) (pe_tSSt (pe_callB (cr_sortS rfl (hu64 hr)) (by rfl) b_sorted boot_sorted (pa_cons (pe_callTy (cr_setS rfl) (by rfl) b_set boot_set (pa_cons (pv 6) pa_nil)) pa_nil)))) pa_nil)) pa_nil))))))) (pss_one (ps_ret (pe_callTy call_tupleF (by rfl) b_tuple boot_tuple (pa_cons (pv 3) pa_nil)))))))) (ss__law_has K)
theorem ok__law_plan {P : Program} {w : World} {K : PySem.W.Frag} {mg : Str → Option Value} {base : Heap} {f : Addr} {fd : FuncData} (b_len : mg "len" = none) (b_range : mg "range" = none) (b_tuple : mg "tuple" = none) {f__law_draw : Addr} {fd__law_draw : FuncData} (C__law_draw : Cal P w K mg base "_law_draw" 1 ["_law_feed_here", "_law_many"] (spF 2 (runF 7 m__law_draw)) f__law_draw fd__law_draw) {f__law_any : Addr} {fd__law_any : FuncData} (C__law_any : Cal P w K mg base "_law_any" 2 ["_law_feed_here", "_law_some"] (spF 2 (runF 2 m__law_any)) f__law_any fd__law_any) {f__law_has : Addr} {fd__law_has : FuncData} (C__law_has : Cal P w K mg base "_law_has" 1 ["_law_grid_here", "_law_stock_here", "_law_plan_here"] (spP 3 (runP 10 m__law_has)) f__law_has fd__law_has) (F : FnP K "_law_plan" s__law_plan f fd) : FnG P w K mg base CX0 3 f fd ["_law_feed_here", "_law_grid_here", "_law_stock_here", "_law_tries"] (spF 4 (runF 13 m__law_plan)) :=
  have nd := sc__law_plan.nd
  def_feed F sc__law_plan (fun cdv hv A outer s H E hg hr => PSs.nox ((pss_cons (ps_set (i := 4) nd rfl (Or.inl rfl) (pe_op op_mulU (pe_lst (pa_cons (pe_un un_neg pe_int) pa_nil)) (pe_callB call_lenA (by rfl) b_len boot_len (pa_cons (pe_ix (ix_A (hu64 hr)) (pv 1) pe_int (fun _ _ => rfl)) pa_nil)))) (pss_cons (ps_for PassesOwn.never rfl (pi_range1 (by rfl) b_range (pa_cons (pe_ifExp (pt_cmpR (op_neU (hu64 hr)) (pe_ix (ix_A (hu64 hr)) (pv 1) pe_int (fun _ _ => rfl)) (pe_tupF pa_nil) (nomark _)) (pv 3) pe_int) pa_nil)) (pg_name (i := 5) nd rfl (Or.inl rfl)) (pss_cons (ps_asg (pe_tupF (pa_cons (pe_calC C__law_draw hg hr (by decide) (by rfl) (pa_cons (pv 0) (pa_cons (pe_callB call_lenA (by rfl) b_len boot_len (pa_cons (pe_ix (ix_A (hu64 hr)) (pv 1) pe_int (fun _ _ => rfl)) pa_nil)) pa_nil))) (pa_cons (pe_calC C__law_has hg hr (by decide) (by rfl) (pa_cons (pv 1) (pa_cons (pv 2) (pa_cons (pv 4) pa_nil)))) pa_nil))) (pg_ei rfl (pgs_cons (pg_name (i := 8) nd rfl (Or.inl rfl)) (pgs_cons (pg_name (i := 9) nd rfl (Or.inr rfl)) pgs_nil)))) (pss_cons (ps_asg (pe_ix (ix_A (hu64 hr)) (pe_ix (ix_A (hu64 hr)) (pv 1) pe_int (fun _ _ => rfl)) (pv 8) (fun _ _ => rfl)) (pg_ei rfl (pgs_cons (pg_name (i := 10) nd rfl (Or.inr rfl)) (pgs_cons (pg_name (i := 11) nd rfl (Or.inr rfl)) pgs_nil)))) (pss_cons (ps_setLc (i := 6) (own := [("_law_share", 12)]) (g := (gName 12)) (tt := (tTest (tOp (rInA K fun b => b) (tVar 10) (tOp (rIxA K) (tVar 9) (tVar 12))))) rfl nd rfl rfl (sw_true rfl rfl rfl (by decide +kernel)) (pi_range1 (by rfl) b_range (pa_cons (pe_callB call_lenA (by rfl) b_len boot_len (pa_cons (pv 2) pa_nil)) pa_nil)) (blkOk_by (N := N__law_plan) (sc := defScope s__law_plan) (by decide +kernel)) (fun _ _ _ _ _ => (pg_name (i := 12) nd rfl (by first | exact Or.inl rfl | exact Or.inr rfl))) (fun _ _ _ _ _ => (pts_one (pt_cmpR (op_inA (hu65 hr)) (pv 10) (pe_ix (ix_A (hu64 hr)) (pv 9) (pv 12) (fun _ _ => rfl)) (by with_unfolding_all rfl)))) (fun _ _ _ _ _ => (pv 12))) (pss_cons (ps_setLc (i := 7) (own := [("_law_share", 12)]) (g := (gName 12)) (tt := (tTest (tOp (rInA K fun b => !b) (tVar 11) (tOp (rIxA K) (tVar 9) (tVar 12))))) rfl nd rfl rfl (sw_true rfl rfl rfl (by decide +kernel)) (pi_any (pv 6)) (blkOk_by (N := N__law_plan) (sc := defScope s__law_plan) (by decide +kernel)) (fun _ _ _ _ _ => (pg_name (i := 12) nd rfl (by first | exact Or.inl rfl | exact Or.inr rfl))) (fun _ _ _ _ _ => (pts_one (pt_cmpR (op_notInA (hu65 hr)) (pv 11) (pe_ix (ix_A (hu64 hr)) (pv 9) (pv 12) (fun _ _ => rfl)) (by with_unfolding_all rfl)))) (fun _ _ _ _ _ => (pv 12))) (pss_cons (ps_if (pt_cmpR op_gtU (pe_calC C__law_draw hg hr (by decide) (by rfl) (pa_cons (pv 0) (pa_cons pe_int pa_nil))) pe_int (nomark _)) (pss_one (ps_set (i := 6) nd rfl (Or.inl rfl) (pv 7))) pss_nil) (pss_one (ps_if (pw_and (pt_cmpR (op_eqU (hu64 hr)) (pe_ix (ix_A (hu64 hr)) (pv 4) (pv 8) (fun _ _ => rfl)) (pe_un un_neg pe_int) (nomark _)) (pw_and1 (pt_cmpR (op_neU (hu64 hr)) (pv 6) (pe_lst pa_nil) (nomark _)))).pt (pss_one (ps_asg (pe_calC C__law_any hg hr (by decide) (by rfl) (pa_cons (pv 0) (pa_cons (pv 6) pa_nil))) (pg_sub (pv 4) (pv 8) set_list))) pss_nil)))))))) (pss_one (ps_ret (pe_callTy call_tupleF (by rfl) b_tuple boot_tuple (pa_cons (pv 4) pa_nil)))))))) (ss__law_plan K)
end
end H18

namespace H18
noncomputable section
open PySem PySem.Spec PyProof.Rows L2 RZ AP
variable [Tbls]
theorem ok__law_drawn {P : Program} {w : World} {K : PySem.W.Frag} {mg : Str → Option Value} {base : Heap} {f : Addr} {fd : FuncData} (b_len : mg "len" = none) {f__law_grid : Addr} {fd__law_grid : FuncData} (C__law_grid : Cal P w K mg base "_law_grid" 4 ["_law_feed_here", "_law_most", "_law_cables"] (spF 3 (runF 9 m__law_grid)) f__law_grid fd__law_grid) {f__law_stock : Addr} {fd__law_stock : FuncData} (C__law_stock : Cal P w K mg base "_law_stock" 3 ["_law_feed_here", "_law_grid_here", "_law_most"] (spF 3 (runF 7 m__law_stock)) f__law_stock fd__law_stock) {f__law_plan : Addr} {fd__law_plan : FuncData} (C__law_plan : Cal P w K mg base "_law_plan" 3 ["_law_feed_here", "_law_grid_here", "_law_stock_here", "_law_tries"] (spF 4 (runF 13 m__law_plan)) f__law_plan fd__law_plan) (F : FnP K "_law_drawn" s__law_drawn f fd) : FnG P w K mg base CX0 5 f fd ["_law_feed_here"] (spF 1 (runF 3 m__law_drawn)) :=
  have nd := sc__law_drawn.nd
  def_feed F sc__law_drawn (fun cdv hv A outer s H E hg hr => PSs.nox ((pss_cons (ps_set (i := 1) nd rfl (Or.inl rfl) (pe_calC C__law_grid hg hr (by decide) (by rfl) (pa_cons (pv 0) (pa_cons pe_int (pa_cons pe_int pa_nil))))) (pss_cons (ps_set (i := 2) nd rfl (Or.inl rfl) (pe_calC C__law_stock hg hr (by decide) (by rfl) (pa_cons (pv 0) (pa_cons (pv 1) (pa_cons pe_int pa_nil))))) (pss_one (ps_ret (pe_tupF (pa_cons (pv 1) (pa_cons (pv 2) (pa_cons (pe_calC C__law_plan hg hr (by decide) (by rfl) (pa_cons (pv 0) (pa_cons (pv 1) (pa_cons (pv 2) (pa_cons (pe_op op_mul pe_int (pe_callB call_lenA (by rfl) b_len boot_len (pa_cons (pe_ix (ix_A (hu64 hr)) (pv 1) pe_int (fun _ _ => rfl)) pa_nil))) pa_nil))))) pa_nil)))))))))) (ss__law_drawn K)
theorem ok_law {P : Program} {w : World} {K : PySem.W.Frag} {mg : Str → Option Value} {base : Heap} {f : Addr} {fd : FuncData} (b_enumerate : mg "enumerate" = none) (b_len : mg "len" = none) (b_range : mg "range" = none) (b_repr : mg "repr" = none) (b_sum : mg "sum" = none) (b_tuple : mg "tuple" = none) {f_lets_giving : Addr} {fd_lets_giving : FuncData} (C_lets_giving : Cal P w K mg base "lets_giving" 9 ["net", "holders", "thing"] (spP 3 (runP 7 m_lets_giving)) f_lets_giving fd_lets_giving) {f_having : Addr} {fd_having : FuncData} (C_having : Cal P w K mg base "having" 11 ["net", "holders", "giving"] (spP 3 (runP 4 m_having)) f_having fd_having) {f_idle_wires : Addr} {fd_idle_wires : FuncData} (C_idle_wires : Cal P w K mg base "idle_wires" 11 ["net", "holders", "giving"] (spP 3 (runP 6 m_idle_wires)) f_idle_wires fd_idle_wires) {f__law_feed : Addr} {fd__law_feed : FuncData} (C__law_feed : Cal P w K mg base "_law_feed" 1 ["_law_script"] (spFeedK (Str.ofString "spot") (Str.ofString "left") (Str.ofString "drawn") K) f__law_feed fd__law_feed) {f__law_has : Addr} {fd__law_has : FuncData} (C__law_has : Cal P w K mg base "_law_has" 1 ["_law_grid_here", "_law_stock_here", "_law_plan_here"] (spP 3 (runP 10 m__law_has)) f__law_has fd__law_has) {f__law_drawn : Addr} {fd__law_drawn : FuncData} (C__law_drawn : Cal P w K mg base "_law_drawn" 5 ["_law_feed_here"] (spF 1 (runF 3 m__law_drawn)) f__law_drawn fd__law_drawn) (w_idle_wires_102 : ∀ (s : Shared) (ws : List Value), (perm [1, 0, 2] ws).length = 3 → BindsTo s fd_idle_wires ⟨[], (["holders", "net", "giving"] : List Str).zip ws⟩ ((["net", "holders", "giving"] : List Str).zip (perm [1, 0, 2] ws))) (F : FnP K "law" s_law f fd) : lawOkK (Str.ofString "spot") (Str.ofString "left") (Str.ofString "drawn") 16 m_law → FnG P w K mg base CX0 12 f fd ["_law_script"] (spLaw K) :=
  have nd := sc_law.nd
  fun ok : lawOkK (Str.ofString "spot") (Str.ofString "left") (Str.ofString "drawn") 16 m_law => def_lawK (t := t_law K) F sc_law rfl (by decide) (fun cdv hv A outer s H E hg hr => PSs.nox (pss_cons (ps_set (i := 1) nd rfl (Or.inl rfl) (pe_calC C__law_feed hg hr (by decide) (by rfl) (pa_cons (pv 0) pa_nil))) (pss_cons (ps_for PassesOwn.never rfl (pi_range1 (by rfl) b_range (pa_cons pe_int pa_nil)) (pg_name (i := 2) nd rfl (Or.inl rfl)) (pss_cons (ps_asg (pe_calC C__law_drawn hg hr (by decide) (by rfl) (pa_cons (pv 1) pa_nil)) (pg_ei rfl (pgs_cons (pg_name (i := 7) nd rfl (Or.inl rfl)) (pgs_cons (pg_name (i := 8) nd rfl (Or.inr rfl)) (pgs_cons (pg_name (i := 9) nd rfl (Or.inl rfl)) pgs_nil))))) (pss_cons (ps_par (i := 10) (j := 11) rfl nd rfl rfl (by decide) rfl rfl (pa_cons (pe_calC C__law_has hg hr (by decide) (by rfl) (pa_cons (pv 7) (pa_cons (pv 8) (pa_cons (pv 9) pa_nil)))) (pa_cons (pe_lst pa_nil) pa_nil)) (by rfl)) (pss_cons (ps_for PassesOwn.never rfl (pi_range1 (by rfl) b_range (pa_cons (pe_callB call_lenA (by rfl) b_len boot_len (pa_cons (pv 9) pa_nil)) pa_nil)) (pg_name (i := 3) nd rfl (Or.inl rfl)) (pss_cons (ps_set (i := 12) nd rfl (Or.inl rfl) (pe_op op_addU (pe_op op_addU (pe_slice sl_U (pv 9) po_none (po_some (pv 3))) (pe_tupF (pa_cons (pe_un un_neg pe_int) pa_nil))) (pe_slice sl_U (pv 9) (po_some (pe_op op_addU (pv 3) pe_int)) po_none))) (pss_one (ps_if (pw_and (pt_cmpR (op_neU (hu64 hr)) (pe_ix (ix_A (hu64 hr)) (pv 9) (pv 3) (fun _ _ => rfl)) (pe_un un_neg pe_int) (nomark _)) (pw_and1 (pt_cmpR (op_eqU (hu64 hr)) (pe_calC C__law_has hg hr (by decide) (by rfl) (pa_cons (pv 7) (pa_cons (pv 8) (pa_cons (pv 12) pa_nil)))) (pv 10) (nomark _)))).pt (pss_one (ps_expr (pe_bm PySem.F.plainAttrs_list PySem.F.slot_list_append PySem.F.type_list_append mt_append (pv 11) (pa_cons (pv 3) pa_nil)))) pss_nil)))) (pss_cons (ps_set (i := 4) nd rfl (Or.inl rfl) (pe_lst (pa_cons (pe_calC C_idle_wires hg hr (by decide) (by rfl) (pa_cons (pv 7) (pa_cons (pv 8) (pa_cons (pv 9) pa_nil)))) (pa_cons (pe_calK C_idle_wires hg hr (by decide) (by rfl) w_idle_wires_102 (pk_cons (pv 8) (pk_cons (pv 7) (pk_cons (pv 9) pk_nil)))) pa_nil)))) (pss_cons (ps_if (pt_cmpR (op_neU (hu64 hr)) (pe_callB (call_repr (hg rfl) (hu64 hr)) (by rfl) b_repr boot_repr (pa_cons (pv 4) pa_nil)) (pe_callB (call_repr (hg rfl) (hu64 hr)) (by rfl) b_repr boot_repr (pa_cons (pe_op op_mulU (pe_lst (pa_cons (pe_callTy call_tupleF (by rfl) b_tuple boot_tuple (pa_cons (pv 11) pa_nil)) pa_nil)) pe_int) pa_nil)) (nomark _)) (pss_one (ps_ret pe_bl)) pss_nil) (pss_cons (ps_set (i := 5) nd rfl (Or.inl rfl) (pe_callB call_lenA (by rfl) b_len boot_len (pa_cons (pe_lc (own := [("_law_share", 14)]) (g := (gName 14)) (tt := (tTest (tOp (rNeU K) (tVar 14) (tUn rNeg (tC (.int 1)))))) rfl nd  (pi_any (pv 9)) (blkOk_by (N := N_law) (sc := defScope s_law) (by decide +kernel)) (fun _ _ _ _ _ => (pg_name (i := 14) nd rfl (by first | exact Or.inl rfl | exact Or.inr rfl))) (fun _ _ _ _ _ => (pts_one (pt_cmpR (op_neU (hu64 hr)) (pv 14) (pe_un un_neg pe_int) (nomark _)))) (fun _ _ _ _ _ => (pv 14))) pa_nil))) (pss_cons (ps_for PassesOwn.never rfl (pi_any (pv 11)) (pg_name (i := 3) nd rfl (Or.inl rfl)) (pss_cons (ps_set (i := 12) nd rfl (Or.inl rfl) (pe_op op_addU (pe_op op_addU (pe_slice sl_U (pv 9) po_none (po_some (pv 3))) (pe_tupF (pa_cons (pe_un un_neg pe_int) pa_nil))) (pe_slice sl_U (pv 9) (po_some (pe_op op_addU (pv 3) pe_int)) po_none))) (pss_cons (ps_set (i := 13) nd rfl (Or.inl rfl) (pe_lst (pa_cons (pe_calC C_lets_giving hg hr (by decide) (by rfl) (pa_cons (pv 7) (pa_cons (pv 8) (pa_cons (pv 12) pa_nil)))) (pa_cons (pe_calC C_having hg hr (by decide) (by rfl) (pa_cons (pv 7) (pa_cons (pv 8) (pa_cons (pv 12) pa_nil)))) pa_nil)))) (pss_one (ps_if (pt_cmpR (op_neU (hu64 hr)) (pe_callB (call_repr (hg rfl) (hu64 hr)) (by rfl) b_repr boot_repr (pa_cons (pv 13) pa_nil)) (pe_callB (call_repr (hg rfl) (hu64 hr)) (by rfl) b_repr boot_repr (pa_cons (pe_lst (pa_cons (pe_op op_sub (pv 5) pe_int) (pa_cons (pv 10) pa_nil))) pa_nil)) (nomark _)) (pss_one (ps_ret pe_bl)) pss_nil))))) (pss_cons (ps_set (i := 6) nd rfl (Or.inl rfl) (pe_callB (cr_sum rfl) (by rfl) b_sum boot_sum (pa_cons (pe_lc (own := [("_law_share", 14), ("_law_own", 15)]) (g := (gTup K 2 (gCons (gName 14) (gCons (gName 15) gNil)))) (tt := tYes) rfl nd  (pi_enA (by rfl) b_enumerate (pa_cons (pv 10) pa_nil)) (blkOk_by (N := N_law) (sc := defScope s_law) (by decide +kernel)) (fun _ _ _ _ _ => (pg_tup rfl (pgs_cons (pg_name (i := 14) nd rfl (by first | exact Or.inl rfl | exact Or.inr rfl)) (pgs_cons (pg_name (i := 15) nd rfl (by first | exact Or.inl rfl | exact Or.inr rfl)) pgs_nil)))) (fun _ _ _ _ _ => pts_nil) (fun _ _ _ _ _ => (pe_op op_sub (pe_callB call_lenA (by rfl) b_len boot_len (pa_cons (pv 15) pa_nil)) (pe_callB call_lenA (by rfl) b_len boot_len (pa_cons (pe_ix (ix_A (hu64 hr)) (pv 8) (pv 14) (fun _ _ => rfl)) pa_nil))))) pa_nil))) (pss_one (ps_if (pt_cmpR (op_neU (hu64 hr)) (pe_cmpR (op_eqU (hu64 hr)) (pv 11) (pe_lst pa_nil) (nomark _)) (pe_cmpR (op_eqU (hu64 hr)) (pv 5) (pv 6) (nomark _)) (nomark _)) (pss_one (ps_ret pe_bl)) pss_nil))))))))))) (pss_one (ps_ret pe_bl))))) (ss_law K) ok
end
end H18

namespace H18
open PySem PySem.Spec PyProof.Rows L2 RZ AP

def d_is_integer : He.DefD := ⟨("is_integer", none), "is_integer", "is_integer", defArgs s_is_integer, defBody s_is_integer, defScope s_is_integer, [], []⟩
def d_is_pair : He.DefD := ⟨("is_pair", none), "is_pair", "is_pair", defArgs s_is_pair, defBody s_is_pair, defScope s_is_pair, [], []⟩
def d_is_ascending : He.DefD := ⟨("is_ascending", none), "is_ascending", "is_ascending", defArgs s_is_ascending, defBody s_is_ascending, defScope s_is_ascending, [], []⟩
def d_is_name : He.DefD := ⟨("is_name", none), "is_name", "is_name", defArgs s_is_name, defBody s_is_name, defScope s_is_name, [], []⟩
def d_is_name_pair : He.DefD := ⟨("is_name_pair", none), "is_name_pair", "is_name_pair", defArgs s_is_name_pair, defBody s_is_name_pair, defScope s_is_name_pair, [], []⟩
def d_is_houses : He.DefD := ⟨("is_houses", none), "is_houses", "is_houses", defArgs s_is_houses, defBody s_is_houses, defScope s_is_houses, [], []⟩
def d_is_wire : He.DefD := ⟨("is_wire", none), "is_wire", "is_wire", defArgs s_is_wire, defBody s_is_wire, defScope s_is_wire, [], []⟩
def d_is_set_among : He.DefD := ⟨("is_set_among", none), "is_set_among", "is_set_among", defArgs s_is_set_among, defBody s_is_set_among, defScope s_is_set_among, [], []⟩
def d_is_wire_among : He.DefD := ⟨("is_wire_among", none), "is_wire_among", "is_wire_among", defArgs s_is_wire_among, defBody s_is_wire_among, defScope s_is_wire_among, [], []⟩
def d_lets_net : He.DefD := ⟨("lets_net", none), "lets_net", "lets_net", defArgs s_lets_net, defBody s_lets_net, defScope s_lets_net, [], []⟩
def d_need_net : He.DefD := ⟨("need_net", none), "need_net", "need_net", defArgs s_need_net, defBody s_need_net, defScope s_need_net, [], []⟩
def d_lets_holders : He.DefD := ⟨("lets_holders", none), "lets_holders", "lets_holders", defArgs s_lets_holders, defBody s_lets_holders, defScope s_lets_holders, [], []⟩
def d_need_holders : He.DefD := ⟨("need_holders", none), "need_holders", "need_holders", defArgs s_need_holders, defBody s_need_holders, defScope s_need_holders, [], []⟩
def d_comers_to : He.DefD := ⟨("comers_to", none), "comers_to", "comers_to", defArgs s_comers_to, defBody s_comers_to, defScope s_comers_to, [], []⟩
def d_comers : He.DefD := ⟨("comers", none), "comers", "comers", defArgs s_comers, defBody s_comers, defScope s_comers, [], []⟩
def d_lets_giving : He.DefD := ⟨("lets_giving", none), "lets_giving", "lets_giving", defArgs s_lets_giving, defBody s_lets_giving, defScope s_lets_giving, [], []⟩
def d_need_giving : He.DefD := ⟨("need_giving", none), "need_giving", "need_giving", defArgs s_need_giving, defBody s_need_giving, defScope s_need_giving, [], []⟩
def d_having : He.DefD := ⟨("having", none), "having", "having", defArgs s_having, defBody s_having, defScope s_having, [], []⟩
def d__is_idle : He.DefD := ⟨("_is_idle", none), "_is_idle", "_is_idle", defArgs s__is_idle, defBody s__is_idle, defScope s__is_idle, [], []⟩
def d_idle_wires : He.DefD := ⟨("idle_wires", none), "idle_wires", "idle_wires", defArgs s_idle_wires, defBody s_idle_wires, defScope s_idle_wires, [], []⟩
def d__law_feed : He.DefD := ⟨("_law_feed", none), "_law_feed", "_law_feed", defArgs s__law_feed, defBody s__law_feed, defScope s__law_feed, [], []⟩
def d__law_draw : He.DefD := ⟨("_law_draw", none), "_law_draw", "_law_draw", defArgs s__law_draw, defBody s__law_draw, defScope s__law_draw, [], []⟩
def d__law_any : He.DefD := ⟨("_law_any", none), "_law_any", "_law_any", defArgs s__law_any, defBody s__law_any, defScope s__law_any, [], []⟩
def d__law_names : He.DefD := ⟨("_law_names", none), "_law_names", "_law_names", defArgs s__law_names, defBody s__law_names, defScope s__law_names, [], []⟩
def d__law_grid : He.DefD := ⟨("_law_grid", none), "_law_grid", "_law_grid", defArgs s__law_grid, defBody s__law_grid, defScope s__law_grid, [], []⟩
def d__law_stock : He.DefD := ⟨("_law_stock", none), "_law_stock", "_law_stock", defArgs s__law_stock, defBody s__law_stock, defScope s__law_stock, [], []⟩
def d__law_has : He.DefD := ⟨("_law_has", none), "_law_has", "_law_has", defArgs s__law_has, defBody s__law_has, defScope s__law_has, [], []⟩
def d__law_plan : He.DefD := ⟨("_law_plan", none), "_law_plan", "_law_plan", defArgs s__law_plan, defBody s__law_plan, defScope s__law_plan, [], []⟩
def d__law_drawn : He.DefD := ⟨("_law_drawn", none), "_law_drawn", "_law_drawn", defArgs s__law_drawn, defBody s__law_drawn, defScope s__law_drawn, [], []⟩
def d_law : He.DefD := ⟨("law", none), "law", "law", defArgs s_law, defBody s_law, defScope s_law, [], []⟩
abbrev i_InvalidPaper : Stmt := clsBody (top 4) 0
def d_InvalidPaper : He.DefD := ⟨("InvalidPaper", some "__init__"), "__init__", "InvalidPaper.__init__", defArgs i_InvalidPaper, defBody i_InvalidPaper, defScope i_InvalidPaper, [], []⟩
theorem sc_InvalidPaper : FnScope ["self", "word", "at"] ["self", "word", "at"] (defScope i_InvalidPaper) := ⟨rfl, rfl, rfl, by decide +kernel, rfl, by decide +kernel, by decide +kernel⟩
abbrev i_NotUsable : Stmt := clsBody (top 5) 0
def d_NotUsable : He.DefD := ⟨("NotUsable", some "__init__"), "__init__", "NotUsable.__init__", defArgs i_NotUsable, defBody i_NotUsable, defScope i_NotUsable, [], []⟩
theorem sc_NotUsable : FnScope ["self", "word", "at"] ["self", "word", "at"] (defScope i_NotUsable) := ⟨rfl, rfl, rfl, by decide +kernel, rfl, by decide +kernel, by decide +kernel⟩
def fn : List He.DefD := [d_is_integer, d_is_pair, d_is_ascending, d_is_name, d_is_name_pair, d_is_houses, d_is_wire, d_is_set_among, d_is_wire_among, d_lets_net, d_need_net, d_lets_holders, d_need_holders, d_comers_to, d_comers, d_lets_giving, d_need_giving, d_having, d__is_idle, d_idle_wires, d__law_feed, d__law_draw, d__law_any, d__law_names, d__law_grid, d__law_stock, d__law_has, d__law_plan, d__law_drawn, d_law, d_InvalidPaper, d_NotUsable]
def fa : List He.Fa := [.glo "is_integer", .glo "is_pair", .glo "is_ascending", .glo "is_name", .glo "is_name_pair", .glo "is_houses", .glo "is_wire", .glo "is_set_among", .glo "is_wire_among", .glo "lets_net", .glo "need_net", .glo "lets_holders", .glo "need_holders", .glo "comers_to", .glo "comers", .glo "lets_giving", .glo "need_giving", .glo "having", .glo "_is_idle", .glo "idle_wires", .glo "_law_feed", .glo "_law_draw", .glo "_law_any", .glo "_law_names", .glo "_law_grid", .glo "_law_stock", .glo "_law_has", .glo "_law_plan", .glo "_law_drawn", .glo "law", .glo "PieceError", .glo "PaperError", .glo "NetError", .glo "InvalidPaper", .glo "NotUsable", .free "all", .free "bool", .free "enumerate", .free "int", .free "isinstance", .free "len", .free "list", .free "range", .free "repr", .free "set", .free "sorted", .free "str", .free "sum", .free "tuple", .free "zip"]
def tf : List He.Defn := []
def ex (K : PySem.W.Frag) : Bool := exB K "InvalidPaper" "word" "at" && (exB K "NotUsable" "word" "at" && (ndB (tf.map fun p => (He.cT K p).2)))
abbrev R : PySem.W.OpenRow := PySem.W.OpenLaw.row PySem.Challenge.rw_allpieces_k18_whole_idle_wires
abbrev hk : PySem.W.Hook := He.hookX 5 fa fn [] tf ex
def ob (s : PySem.W.SharedT) : He.AlX := He.obsX 5 fa fn [] tf ex (HandSHeadRun.getT s)
theorem ob_eq (s : PySem.W.SharedT) : ob s = hk.obs s.abs := He.obsX_eq (HandSHeadRun.getT_eq s)
theorem run (w : World) : HandSHeadRun.RunEq R (PySem.W.view R.prog [45]) hk ob 6000 ([PySem.Str.ofString "PieceError", PySem.Str.ofString "PaperError", PySem.Str.ofString "NetError", PySem.Str.ofString "InvalidPaper", PySem.Str.ofString "NotUsable", PySem.Str.ofString "is_integer", PySem.Str.ofString "is_pair", PySem.Str.ofString "is_ascending", PySem.Str.ofString "is_name", PySem.Str.ofString "is_name_pair", PySem.Str.ofString "is_houses", PySem.Str.ofString "is_wire", PySem.Str.ofString "is_set_among", PySem.Str.ofString "is_wire_among", PySem.Str.ofString "lets_net", PySem.Str.ofString "need_net", PySem.Str.ofString "lets_holders", PySem.Str.ofString "need_holders", PySem.Str.ofString "comers_to", PySem.Str.ofString "comers", PySem.Str.ofString "lets_giving", PySem.Str.ofString "need_giving", PySem.Str.ofString "having", PySem.Str.ofString "idle_wires", PySem.Str.ofString "_is_idle", PySem.Str.ofString "_law_feed", PySem.Str.ofString "_law_draw", PySem.Str.ofString "_law_any", PySem.Str.ofString "_law_names", PySem.Str.ofString "_law_grid", PySem.Str.ofString "_law_stock", PySem.Str.ofString "_law_has", PySem.Str.ofString "_law_plan", PySem.Str.ofString "_law_drawn"] : List Str) w := by
  intro os
  kernel_rfl

theorem facts {P : Program} {w : World} {K : PySem.W.Frag} {h : Heap} {mg : Str → Option Value} {f : Addr} (X : K.In h) (G : h.Ns mainGlobals mg) (hfa : mg ("law" : Str) = some (.ref f)) (c0 : He.SaysX fa fn [] tf ex w h K) (ok : lawOkK (Str.ofString "spot") (Str.ofString "left") (Str.ofString "drawn") 16 m_law) :
    ∃ fd : FuncData, (∀ (s : Shared) (v : Value), BindsTo s fd ⟨[v], []⟩ [("_law_script", v)]) ∧ ∀ base : Heap, K.In base → base.Ns mainGlobals mg → (∀ q ∈ makers K tf, LamX.TabB base mg q.1 q.2.1) → @FnG gT P w K mg base CX0 12 f fd ["_law_script"] (@spLaw (tblsOf (makers K tf)) K) := by
  letI : Tbls := tblsOf (makers K tf)
  letI : Gd := gT
  have c := c0.t.d
  obtain ⟨fd_is_integer, F_is_integer⟩ := c.def_ 0 (d := d_is_integer) rfl
  obtain ⟨fd_is_pair, F_is_pair⟩ := c.def_ 1 (d := d_is_pair) rfl
  obtain ⟨fd_is_ascending, F_is_ascending⟩ := c.def_ 2 (d := d_is_ascending) rfl
  obtain ⟨fd_is_name, F_is_name⟩ := c.def_ 3 (d := d_is_name) rfl
  obtain ⟨fd_is_name_pair, F_is_name_pair⟩ := c.def_ 4 (d := d_is_name_pair) rfl
  obtain ⟨fd_is_houses, F_is_houses⟩ := c.def_ 5 (d := d_is_houses) rfl
  obtain ⟨fd_is_wire, F_is_wire⟩ := c.def_ 6 (d := d_is_wire) rfl
  obtain ⟨fd_is_set_among, F_is_set_among⟩ := c.def_ 7 (d := d_is_set_among) rfl
  obtain ⟨fd_is_wire_among, F_is_wire_among⟩ := c.def_ 8 (d := d_is_wire_among) rfl
  obtain ⟨fd_lets_net, F_lets_net⟩ := c.def_ 9 (d := d_lets_net) rfl
  obtain ⟨fd_need_net, F_need_net⟩ := c.def_ 10 (d := d_need_net) rfl
  obtain ⟨fd_lets_holders, F_lets_holders⟩ := c.def_ 11 (d := d_lets_holders) rfl
  obtain ⟨fd_need_holders, F_need_holders⟩ := c.def_ 12 (d := d_need_holders) rfl
  obtain ⟨fd_comers_to, F_comers_to⟩ := c.def_ 13 (d := d_comers_to) rfl
  obtain ⟨fd_comers, F_comers⟩ := c.def_ 14 (d := d_comers) rfl
  obtain ⟨fd_lets_giving, F_lets_giving⟩ := c.def_ 15 (d := d_lets_giving) rfl
  obtain ⟨fd_need_giving, F_need_giving⟩ := c.def_ 16 (d := d_need_giving) rfl
  obtain ⟨fd_having, F_having⟩ := c.def_ 17 (d := d_having) rfl
  obtain ⟨fd__is_idle, F__is_idle⟩ := c.def_ 18 (d := d__is_idle) rfl
  obtain ⟨fd_idle_wires, F_idle_wires⟩ := c.def_ 19 (d := d_idle_wires) rfl
  obtain ⟨fd__law_feed, F__law_feed⟩ := c.def_ 20 (d := d__law_feed) rfl
  obtain ⟨fd__law_draw, F__law_draw⟩ := c.def_ 21 (d := d__law_draw) rfl
  obtain ⟨fd__law_any, F__law_any⟩ := c.def_ 22 (d := d__law_any) rfl
  obtain ⟨fd__law_names, F__law_names⟩ := c.def_ 23 (d := d__law_names) rfl
  obtain ⟨fd__law_grid, F__law_grid⟩ := c.def_ 24 (d := d__law_grid) rfl
  obtain ⟨fd__law_stock, F__law_stock⟩ := c.def_ 25 (d := d__law_stock) rfl
  obtain ⟨fd__law_has, F__law_has⟩ := c.def_ 26 (d := d__law_has) rfl
  obtain ⟨fd__law_plan, F__law_plan⟩ := c.def_ 27 (d := d__law_plan) rfl
  obtain ⟨fd__law_drawn, F__law_drawn⟩ := c.def_ 28 (d := d__law_drawn) rfl
  obtain ⟨fd_law, F_law⟩ := c.def_ 29 (d := d_law) rfl
  obtain ⟨fdi_InvalidPaper, FI_InvalidPaper⟩ := c.def_ 30 (d := d_InvalidPaper) rfl
  obtain ⟨fdi_NotUsable, FI_NotUsable⟩ := c.def_ 31 (d := d_NotUsable) rfl
  have g_is_integer := He.glo_ok X G (c.fact 0 (f := .glo "is_integer") rfl)
  have g_is_pair := He.glo_ok X G (c.fact 1 (f := .glo "is_pair") rfl)
  have g_is_ascending := He.glo_ok X G (c.fact 2 (f := .glo "is_ascending") rfl)
  have g_is_name := He.glo_ok X G (c.fact 3 (f := .glo "is_name") rfl)
  have g_is_name_pair := He.glo_ok X G (c.fact 4 (f := .glo "is_name_pair") rfl)
  have g_is_houses := He.glo_ok X G (c.fact 5 (f := .glo "is_houses") rfl)
  have g_is_wire := He.glo_ok X G (c.fact 6 (f := .glo "is_wire") rfl)
  have g_is_set_among := He.glo_ok X G (c.fact 7 (f := .glo "is_set_among") rfl)
  have g_is_wire_among := He.glo_ok X G (c.fact 8 (f := .glo "is_wire_among") rfl)
  have g_lets_net := He.glo_ok X G (c.fact 9 (f := .glo "lets_net") rfl)
  have g_need_net := He.glo_ok X G (c.fact 10 (f := .glo "need_net") rfl)
  have g_lets_holders := He.glo_ok X G (c.fact 11 (f := .glo "lets_holders") rfl)
  have g_need_holders := He.glo_ok X G (c.fact 12 (f := .glo "need_holders") rfl)
  have g_comers_to := He.glo_ok X G (c.fact 13 (f := .glo "comers_to") rfl)
  have g_comers := He.glo_ok X G (c.fact 14 (f := .glo "comers") rfl)
  have g_lets_giving := He.glo_ok X G (c.fact 15 (f := .glo "lets_giving") rfl)
  have g_need_giving := He.glo_ok X G (c.fact 16 (f := .glo "need_giving") rfl)
  have g_having := He.glo_ok X G (c.fact 17 (f := .glo "having") rfl)
  have g__is_idle := He.glo_ok X G (c.fact 18 (f := .glo "_is_idle") rfl)
  have g_idle_wires := He.glo_ok X G (c.fact 19 (f := .glo "idle_wires") rfl)
  have g__law_feed := He.glo_ok X G (c.fact 20 (f := .glo "_law_feed") rfl)
  have g__law_draw := He.glo_ok X G (c.fact 21 (f := .glo "_law_draw") rfl)
  have g__law_any := He.glo_ok X G (c.fact 22 (f := .glo "_law_any") rfl)
  have g__law_names := He.glo_ok X G (c.fact 23 (f := .glo "_law_names") rfl)
  have g__law_grid := He.glo_ok X G (c.fact 24 (f := .glo "_law_grid") rfl)
  have g__law_stock := He.glo_ok X G (c.fact 25 (f := .glo "_law_stock") rfl)
  have g__law_has := He.glo_ok X G (c.fact 26 (f := .glo "_law_has") rfl)
  have g__law_plan := He.glo_ok X G (c.fact 27 (f := .glo "_law_plan") rfl)
  have g__law_drawn := He.glo_ok X G (c.fact 28 (f := .glo "_law_drawn") rfl)
  have g_law := He.glo_ok X G (c.fact 29 (f := .glo "law") rfl)
  have g_PieceError := He.glo_ok X G (c.fact 30 (f := .glo "PieceError") rfl)
  have g_PaperError := He.glo_ok X G (c.fact 31 (f := .glo "PaperError") rfl)
  have g_NetError := He.glo_ok X G (c.fact 32 (f := .glo "NetError") rfl)
  have g_InvalidPaper := He.glo_ok X G (c.fact 33 (f := .glo "InvalidPaper") rfl)
  have g_NotUsable := He.glo_ok X G (c.fact 34 (f := .glo "NotUsable") rfl)
  have b_all := He.free_ok X G (c.fact 35 (f := .free "all") rfl)
  have b_bool := He.free_ok X G (c.fact 36 (f := .free "bool") rfl)
  have b_enumerate := He.free_ok X G (c.fact 37 (f := .free "enumerate") rfl)
  have b_int := He.free_ok X G (c.fact 38 (f := .free "int") rfl)
  have b_isinstance := He.free_ok X G (c.fact 39 (f := .free "isinstance") rfl)
  have b_len := He.free_ok X G (c.fact 40 (f := .free "len") rfl)
  have b_list := He.free_ok X G (c.fact 41 (f := .free "list") rfl)
  have b_range := He.free_ok X G (c.fact 42 (f := .free "range") rfl)
  have b_repr := He.free_ok X G (c.fact 43 (f := .free "repr") rfl)
  have b_set := He.free_ok X G (c.fact 44 (f := .free "set") rfl)
  have b_sorted := He.free_ok X G (c.fact 45 (f := .free "sorted") rfl)
  have b_str := He.free_ok X G (c.fact 46 (f := .free "str") rfl)
  have b_sum := He.free_ok X G (c.fact 47 (f := .free "sum") rfl)
  have b_tuple := He.free_ok X G (c.fact 48 (f := .free "tuple") rfl)
  have b_zip := He.free_ok X G (c.fact 49 (f := .free "zip") rfl)
  obtain ⟨e_InvalidPaper, r0⟩ := two (show ex K = true from c0.more)
  obtain ⟨e_NotUsable, r1⟩ := two r0
  have e_nd := r1
  have X_InvalidPaper := (exB_ok e_InvalidPaper).1
  have X_NotUsable := (exB_ok e_NotUsable).1
  have e := hfa.symm.trans g_law
  cases e
  have bl := FunD.bindsA (ps := ["_law_script"]) F_law fun _ _ _ _ _ _ us hl => match us, hl with | [_], _ => rfl
  refine ⟨fd_law, fun s v => bl s [v] rfl, fun base _ _ TB => ?_⟩
  have M_InvalidPaper : ExM P w K mg base "InvalidPaper" "word" "at" _ _ ["self", "word", "at"] := exM_of e_InvalidPaper g_InvalidPaper FI_InvalidPaper sc_InvalidPaper rfl (fun _ _ _ _ _ _ us hl => match us, hl with | [_, _, _], _ => rfl) (fun _ _ _ _ _ _ => pss_cons (ps_ost (pv 0) (pv 1)) (pss_one (ps_ost (pv 0) (pv 2)))) (fun _ _ _ _ _ _ _ => pss_cons (ps_ost (pv 0) (pv 1)) (pss_one (ps_ost (pv 0) (pv 2))))
  have M_NotUsable : ExM P w K mg base "NotUsable" "word" "at" _ _ ["self", "word", "at"] := exM_of e_NotUsable g_NotUsable FI_NotUsable sc_NotUsable rfl (fun _ _ _ _ _ _ us hl => match us, hl with | [_, _, _], _ => rfl) (fun _ _ _ _ _ _ => pss_cons (ps_ost (pv 0) (pv 1)) (pss_one (ps_ost (pv 0) (pv 2)))) (fun _ _ _ _ _ _ _ => pss_cons (ps_ost (pv 0) (pv 1)) (pss_one (ps_ost (pv 0) (pv 2))))
  have w_idle_wires_102 : ∀ (s : Shared) (ws : List Value), (perm [1, 0, 2] ws).length = 3 → BindsTo s fd_idle_wires ⟨[], (["holders", "net", "giving"] : List Str).zip ws⟩ ((["net", "holders", "giving"] : List Str).zip (perm [1, 0, 2] ws)) := kw_of (ps := ["net", "holders", "giving"]) F_idle_wires fun _ _ _ _ _ _ ws hl => match ws, hl with | [], hl => by simp [perm] at hl | [_], hl => by simp [perm] at hl | [_, _], hl => by simp [perm] at hl | _ :: _ :: _ :: _, _ => rfl
  have C_is_integer : @Cal gT P w K mg base "is_integer" 1 ["thing"] (spP 1 (runP 1 m_is_integer)) _ _ := ⟨ok_is_integer b_bool b_int b_isinstance F_is_integer, g_is_integer, F_is_integer.kp, FunD.bindsN F_is_integer fun _ _ _ _ _ _ us hl => match us, hl with | [_], _ => rfl⟩
  have C_is_pair : @Cal gT P w K mg base "is_pair" 1 ["thing"] (spP 1 (runP 1 m_is_pair)) _ _ := ⟨ok_is_pair b_isinstance b_len b_tuple F_is_pair, g_is_pair, F_is_pair.kp, FunD.bindsN F_is_pair fun _ _ _ _ _ _ us hl => match us, hl with | [_], _ => rfl⟩
  have C_is_ascending : @Cal gT P w K mg base "is_ascending" 1 ["values"] (spP 1 (runP 3 m_is_ascending)) _ _ := ⟨ok_is_ascending b_all b_zip F_is_ascending, g_is_ascending, F_is_ascending.kp, FunD.bindsN F_is_ascending fun _ _ _ _ _ _ us hl => match us, hl with | [_], _ => rfl⟩
  have C_is_name : @Cal gT P w K mg base "is_name" 1 ["thing"] (spP 1 (runP 2 m_is_name)) _ _ := ⟨ok_is_name b_all b_isinstance b_len b_str F_is_name, g_is_name, F_is_name.kp, FunD.bindsN F_is_name fun _ _ _ _ _ _ us hl => match us, hl with | [_], _ => rfl⟩
  have C_is_name_pair : @Cal gT P w K mg base "is_name_pair" 2 ["thing"] (spP 1 (runP 1 m_is_name_pair)) _ _ := ⟨ok_is_name_pair C_is_pair C_is_name F_is_name_pair, g_is_name_pair, F_is_name_pair.kp, FunD.bindsN F_is_name_pair fun _ _ _ _ _ _ us hl => match us, hl with | [_], _ => rfl⟩
  have C_is_houses : @Cal gT P w K mg base "is_houses" 2 ["thing"] (spP 1 (runP 2 m_is_houses)) _ _ := ⟨ok_is_houses b_all b_isinstance b_tuple C_is_ascending C_is_name F_is_houses, g_is_houses, F_is_houses.kp, FunD.bindsN F_is_houses fun _ _ _ _ _ _ us hl => match us, hl with | [_], _ => rfl⟩
  have C_is_wire : @Cal gT P w K mg base "is_wire" 3 ["thing"] (spP 1 (runP 1 m_is_wire)) _ _ := ⟨ok_is_wire C_is_name_pair F_is_wire, g_is_wire, F_is_wire.kp, FunD.bindsN F_is_wire fun _ _ _ _ _ _ us hl => match us, hl with | [_], _ => rfl⟩
  have C_is_set_among : @Cal gT P w K mg base "is_set_among" 3 ["thing", "houses"] (spP 2 (runP 3 m_is_set_among)) _ _ := ⟨ok_is_set_among b_all C_is_houses F_is_set_among, g_is_set_among, F_is_set_among.kp, FunD.bindsN F_is_set_among fun _ _ _ _ _ _ us hl => match us, hl with | [_, _], _ => rfl⟩
  have C_is_wire_among : @Cal gT P w K mg base "is_wire_among" 4 ["thing", "houses"] (spP 2 (runP 2 m_is_wire_among)) _ _ := ⟨ok_is_wire_among C_is_wire F_is_wire_among, g_is_wire_among, F_is_wire_among.kp, FunD.bindsN F_is_wire_among fun _ _ _ _ _ _ us hl => match us, hl with | [_, _], _ => rfl⟩
  have C_lets_net : @Cal gT P w K mg base "lets_net" 5 ["thing"] (spP 1 (runP 7 m_lets_net)) _ _ := ⟨ok_lets_net b_enumerate b_isinstance b_len b_tuple C_is_pair C_is_houses C_is_wire_among F_lets_net, g_lets_net, F_lets_net.kp, FunD.bindsN F_lets_net fun _ _ _ _ _ _ us hl => match us, hl with | [_], _ => rfl⟩
  have C_need_net : @Cal gT P w K mg base "need_net" 6 ["net"] (spP 1 (runP 1 m_need_net)) _ _ := ⟨ok_need_net C_lets_net F_need_net, g_need_net, F_need_net.kp, FunD.bindsN F_need_net fun _ _ _ _ _ _ us hl => match us, hl with | [_], _ => rfl⟩
  have C_lets_holders : @Cal gT P w K mg base "lets_holders" 7 ["net", "thing"] (spP 2 (runP 6 m_lets_holders)) _ _ := ⟨ok_lets_holders b_enumerate b_isinstance b_len b_tuple C_is_set_among C_need_net F_lets_holders, g_lets_holders, F_lets_holders.kp, FunD.bindsN F_lets_holders fun _ _ _ _ _ _ us hl => match us, hl with | [_, _], _ => rfl⟩
  have C_need_holders : @Cal gT P w K mg base "need_holders" 8 ["net", "holders"] (spP 2 (runP 2 m_need_holders)) _ _ := ⟨ok_need_holders C_lets_holders F_need_holders, g_need_holders, F_need_holders.kp, FunD.bindsN F_need_holders fun _ _ _ _ _ _ us hl => match us, hl with | [_, _], _ => rfl⟩
  have C_comers_to : @Cal gT P w K mg base "comers_to" 1 ["net", "held", "giving", "piece"] (spP 4 (runP 11 m_comers_to)) _ _ := ⟨ok_comers_to b_enumerate b_list F_comers_to, g_comers_to, F_comers_to.kp, FunD.bindsN F_comers_to fun _ _ _ _ _ _ us hl => match us, hl with | [_, _, _, _], _ => rfl⟩
  have C_comers : @Cal gT P w K mg base "comers" 2 ["net", "holders", "giving"] (spP 3 (runP 5 m_comers)) _ _ := ⟨ok_comers b_enumerate C_comers_to F_comers, g_comers, F_comers.kp, FunD.bindsN F_comers fun _ _ _ _ _ _ us hl => match us, hl with | [_, _, _], _ => rfl⟩
  have C_lets_giving : @Cal gT P w K mg base "lets_giving" 9 ["net", "holders", "thing"] (spP 3 (runP 7 m_lets_giving)) _ _ := ⟨ok_lets_giving b_enumerate b_isinstance b_len b_tuple C_is_integer C_need_holders C_comers F_lets_giving, g_lets_giving, F_lets_giving.kp, FunD.bindsN F_lets_giving fun _ _ _ _ _ _ us hl => match us, hl with | [_, _, _], _ => rfl⟩
  have C_need_giving : @Cal gT P w K mg base "need_giving" 10 ["net", "holders", "giving"] (spP 3 (runP 3 m_need_giving)) _ _ := ⟨ok_need_giving C_lets_giving F_need_giving, g_need_giving, F_need_giving.kp, FunD.bindsN F_need_giving fun _ _ _ _ _ _ us hl => match us, hl with | [_, _, _], _ => rfl⟩
  have C_having : @Cal gT P w K mg base "having" 11 ["net", "holders", "giving"] (spP 3 (runP 4 m_having)) _ _ := ⟨ok_having b_sorted b_tuple C_comers C_need_giving F_having, g_having, F_having.kp, FunD.bindsN F_having fun _ _ _ _ _ _ us hl => match us, hl with | [_, _, _], _ => rfl⟩
  have C__is_idle : @Cal gT P w K mg base "_is_idle" 2 ["net", "holders", "giving", "wire"] (spP 4 (runP 7 m__is_idle)) _ _ := ⟨ok__is_idle b_len C_comers_to F__is_idle, g__is_idle, F__is_idle.kp, FunD.bindsN F__is_idle fun _ _ _ _ _ _ us hl => match us, hl with | [_, _, _, _], _ => rfl⟩
  have C_idle_wires : @Cal gT P w K mg base "idle_wires" 11 ["net", "holders", "giving"] (spP 3 (runP 6 m_idle_wires)) _ _ := ⟨ok_idle_wires b_enumerate b_tuple C_need_giving C__is_idle F_idle_wires, g_idle_wires, F_idle_wires.kp, FunD.bindsN F_idle_wires fun _ _ _ _ _ _ us hl => match us, hl with | [_, _, _], _ => rfl⟩
  have C__law_feed : @Cal gT P w K mg base "_law_feed" 1 ["_law_script"] (spFeedK (Str.ofString "spot") (Str.ofString "left") (Str.ofString "drawn") K) _ _ := ⟨ok__law_feed b_int F__law_feed, g__law_feed, F__law_feed.kp, FunD.bindsN F__law_feed fun _ _ _ _ _ _ us hl => match us, hl with | [_], _ => rfl⟩
  have C__law_draw : @Cal gT P w K mg base "_law_draw" 1 ["_law_feed_here", "_law_many"] (spF 2 (runF 7 m__law_draw)) _ _ := ⟨ok__law_draw b_int b_len F__law_draw, g__law_draw, F__law_draw.kp, FunD.bindsN F__law_draw fun _ _ _ _ _ _ us hl => match us, hl with | [_, _], _ => rfl⟩
  have C__law_any : @Cal gT P w K mg base "_law_any" 2 ["_law_feed_here", "_law_some"] (spF 2 (runF 2 m__law_any)) _ _ := ⟨ok__law_any b_len C__law_draw F__law_any, g__law_any, F__law_any.kp, FunD.bindsN F__law_any fun _ _ _ _ _ _ us hl => match us, hl with | [_, _], _ => rfl⟩
  have C__law_names : @Cal gT P w K mg base "_law_names" 3 ["_law_feed_here", "_law_many"] (spF 2 (runF 6 m__law_names)) _ _ := ⟨ok__law_names b_len b_list b_range C__law_draw C__law_any F__law_names, g__law_names, F__law_names.kp, FunD.bindsN F__law_names fun _ _ _ _ _ _ us hl => match us, hl with | [_, _], _ => rfl⟩
  have C__law_grid : @Cal gT P w K mg base "_law_grid" 4 ["_law_feed_here", "_law_most", "_law_cables"] (spF 3 (runF 9 m__law_grid)) _ _ := ⟨ok__law_grid b_len b_range b_sorted b_tuple C__law_draw C__law_any C__law_names F__law_grid, g__law_grid, F__law_grid.kp, FunD.bindsN F__law_grid fun _ _ _ _ _ _ us hl => match us, hl with | [_, _, _], _ => rfl⟩
  have C__law_stock : @Cal gT P w K mg base "_law_stock" 3 ["_law_feed_here", "_law_grid_here", "_law_most"] (spF 3 (runF 7 m__law_stock)) _ _ := ⟨ok__law_stock b_list b_range b_set b_sorted b_tuple C__law_any F__law_stock, g__law_stock, F__law_stock.kp, FunD.bindsN F__law_stock fun _ _ _ _ _ _ us hl => match us, hl with | [_, _, _], _ => rfl⟩
  have C__law_has : @Cal gT P w K mg base "_law_has" 1 ["_law_grid_here", "_law_stock_here", "_law_plan_here"] (spP 3 (runP 10 m__law_has)) _ _ := ⟨ok__law_has b_enumerate b_len b_list b_range b_set b_sorted b_tuple F__law_has, g__law_has, F__law_has.kp, FunD.bindsN F__law_has fun _ _ _ _ _ _ us hl => match us, hl with | [_, _, _], _ => rfl⟩
  have C__law_plan : @Cal gT P w K mg base "_law_plan" 3 ["_law_feed_here", "_law_grid_here", "_law_stock_here", "_law_tries"] (spF 4 (runF 13 m__law_plan)) _ _ := ⟨ok__law_plan b_len b_range b_tuple C__law_draw C__law_any C__law_has F__law_plan, g__law_plan, F__law_plan.kp, FunD.bindsN F__law_plan fun _ _ _ _ _ _ us hl => match us, hl with | [_, _, _, _], _ => rfl⟩
  have C__law_drawn : @Cal gT P w K mg base "_law_drawn" 5 ["_law_feed_here"] (spF 1 (runF 3 m__law_drawn)) _ _ := ⟨ok__law_drawn b_len C__law_grid C__law_stock C__law_plan F__law_drawn, g__law_drawn, F__law_drawn.kp, FunD.bindsN F__law_drawn fun _ _ _ _ _ _ us hl => match us, hl with | [_], _ => rfl⟩
  exact ok_law b_enumerate b_len b_range b_repr b_sum b_tuple C_lets_giving C_having C_idle_wires C__law_feed C__law_has C__law_drawn w_idle_wires_102 F_law ok
end H18
open PySem PySem.W PySem.Calls PyProof.Rows
theorem H18.holds (ok : AP.lawOkK (Str.ofString "spot") (Str.ofString "left") (Str.ofString "drawn") 16 H18.m_law) : PySem.Challenge.rw_allpieces_k18_whole_idle_wires.Holds := by
  w_on; o_law
  refine HandSHeadRun.head_any (r := OpenLaw.row PySem.Challenge.rw_allpieces_k18_whole_idle_wires) (q := view (OpenLaw.row PySem.Challenge.rw_allpieces_k18_whole_idle_wires).prog [45]) (H := H18.hk) (ob := H18.ob) (M := 6000) (loose := ([PySem.Str.ofString "PieceError", PySem.Str.ofString "PaperError", PySem.Str.ofString "NetError", PySem.Str.ofString "InvalidPaper", PySem.Str.ofString "NotUsable", PySem.Str.ofString "is_integer", PySem.Str.ofString "is_pair", PySem.Str.ofString "is_ascending", PySem.Str.ofString "is_name", PySem.Str.ofString "is_name_pair", PySem.Str.ofString "is_houses", PySem.Str.ofString "is_wire", PySem.Str.ofString "is_set_among", PySem.Str.ofString "is_wire_among", PySem.Str.ofString "lets_net", PySem.Str.ofString "need_net", PySem.Str.ofString "lets_holders", PySem.Str.ofString "need_holders", PySem.Str.ofString "comers_to", PySem.Str.ofString "comers", PySem.Str.ofString "lets_giving", PySem.Str.ofString "need_giving", PySem.Str.ofString "having", PySem.Str.ofString "idle_wires", PySem.Str.ofString "_is_idle", PySem.Str.ofString "_law_feed", PySem.Str.ofString "_law_draw", PySem.Str.ofString "_law_any", PySem.Str.ofString "_law_names", PySem.Str.ofString "_law_grid", PySem.Str.ofString "_law_stock", PySem.Str.ofString "_law_has", PySem.Str.ofString "_law_plan", PySem.Str.ofString "_law_drawn"] : List PySem.Str)) (d := HandSHeadRun.topDef (OpenLaw.row PySem.Challenge.rw_allpieces_k18_whole_idle_wires).prog 45) (kwd := []) H18.ob_eq
    (by kernel_rfl) (fun s => by kernel_rfl) H18.run (by kernel_rfl) (by kernel_rfl) (by kernel_rfl) (by rfl) (by first | assumption | decide +kernel) (by decide +kernel) ⟨rfl, rfl, rfl, rfl, rfl, by decide +kernel⟩ ?hw ?hc
  case hw => w_witness2
  case hc =>
    refine AP.end_lawT (l := PySem.Challenge.rw_allpieces_k18_whole_idle_wires) (k := 12) (x := "_law_script") rfl (by kernel_rfl) ⟨rfl, by decide, by decide⟩ ?F
    intro w mg fa h Y G hmg0
    obtain ⟨K, KX, c⟩ := Y
    have hmg : mg ("law" : PySem.Str) = some (.ref fa) := by
      have e : (HandSHeadRun.topDef (OpenLaw.row PySem.Challenge.rw_allpieces_k18_whole_idle_wires).prog 45).name = ("law" : PySem.Str) := by kernel_rfl
      rw [← e]
      exact hmg0
    obtain ⟨fd, hb, hF⟩ := H18.facts (P := (PySem.Challenge.rw_allpieces_k18_whole_idle_wires).prog) (w := w) KX G hmg c ok
    obtain ⟨m1, m2, m3⟩ := AP.makers_ok KX c
    exact ⟨K, fd, _, KX, m1, m2, m3, hb, hF⟩

namespace PL
noncomputable section
open PySem PySem.Spec PyProof.Rows L2 RZ AP
section
variable [Tbls] [Gd]
def low (c : Nat) : Bool := decide (97 ≤ c) && decide (c ≤ 122)
def nameS (s : Str) : Bool := decide (1 ≤ s.length) && (decide (s.length ≤ 8) && s.cps.toList.all low)
def ltS (x y : Str) : Prop := x.cps.toList < y.cps.toList
theorem lt_a (c : Nat) : decide (([c] : List Nat) < [97]) = decide (c < 97) := by
  by_cases h : c < 97
  · rw [decide_eq_true h]; exact decide_eq_true (List.Lex.rel h)
  · rw [decide_eq_false h]; exact decide_eq_false (fun z => by
      cases z with
      | rel z => exact h z
      | cons z => cases z)
theorem lt_z (c : Nat) : decide (([122] : List Nat) < [c]) = decide (122 < c) := by
  by_cases h : 122 < c
  · rw [decide_eq_true h]; exact decide_eq_true (List.Lex.rel h)
  · rw [decide_eq_false h]; exact decide_eq_false (fun z => by
      cases z with
      | rel z => exact h z
      | cons z => cases z)
theorem cp_a : (Str.ofString "a").cps.toList = [97] := by decide +kernel
theorem cp_z : (Str.ofString "z").cps.toList = [122] := by decide +kernel
theorem le_a (c : Nat) : gLeW (.str (Str.ofString "a")) (.str ⟨#[c]⟩) = some (.bool (decide (97 ≤ c))) := by
  simp only [gLeW, gLeU, g2I, oel, g2S, cp_a, lt_a]
  congr 2
  by_cases h : 97 ≤ c
  · simp [h]
  · simp [h]; omega
theorem le_z (c : Nat) : gLeW (.str ⟨#[c]⟩) (.str (Str.ofString "z")) = some (.bool (decide (c ≤ 122))) := by
  simp only [gLeW, gLeU, g2I, oel, g2S, cp_z, lt_z]
  congr 2
  by_cases h : c ≤ 122
  · simp [h]
  · simp [h]; omega
abbrev sg (c : Nat) : D := .str ⟨#[c]⟩
theorem slen (s : Str) : s.cps.toList.length = s.length := Array.length_toList
theorem boolsT {α : Type} (f : α → Bool) (xs : List α) : gAll [.list (xs.map fun x => PyData.bool (f x))] = some (.bool (xs.all f)) := by
  have : (xs.map fun x => PyData.bool (f x)) = (xs.map f).map .bool := by rw [List.map_map]; rfl
  rw [this, gAll_bools, List.all_map]
  rfl
theorem lc_name (s : Str) (hl : s.length ≤ 8) (a1 : Option SV) : PD.lc_is_name_0 ⟨[some (.d (.str s)), a1], []⟩ = some (.l (s.cps.toList.map fun c => .bool (low c)), []) := by
  unfold PD.lc_is_name_0
  refine lcA sg s.cps.toList (fun c => .bool (low c)) rfl (by rw [slen]; omega) fun c _ acc => ⟨_, rfl, rfl, ?_⟩
  simp only [mSeq, mPut, mOp, mVar, mC, mIfS, mTest, mTr, mNot, mAsg, mgName, mgTup, mgSeq, mgCons, mgNil, mCB, mCons, mNil, mRet, mRetN, mNext, mPar, mParO, mParOO, mLstN, mAnd, mOr, mAndV, mOrV, mNotV, mIf, mTup, mLst, mSl, mPart, mNoPart, mCall, mCallK, mCallF, mDrop, mDat, mOwn, mListN, mUn, mStar, seqD, flat_l, flat_k, refs1_l, refs1_k, refsB_nil, refsB_cons, mApp, mPop0, mChain, mIsi, mRange, mItems, mEnum, mAnyI, mYes, seqOf, frz, isiB, truD, perm, List.filterMap_cons, List.filterMap_nil, AP.S.on, vw, vws, dats, wipeS, retD, vwE, gS_eq, sS_eq, st0, List.reduceReplicate, List.getElem?_cons_zero, List.getElem?_cons_succ, List.set_cons_zero, List.set_cons_succ, List.map_cons, List.map_nil, List.length_cons, List.length_nil, List.cons_append, List.nil_append, List.append_nil, and_self, and_true, true_and, if_true, if_false, decide_true, decide_false, Bool.and_self, Bool.and_true, Bool.true_and, Bool.not_true, Bool.not_false, Nat.reduceAdd, Nat.reduceSub, Nat.reduceLeDiff, Nat.reduceEqDiff, Nat.zero_add, Nat.zero_le, Int.reduceLT, Int.reduceNeg, le_a]
  by_cases h : 97 ≤ c
  · simp only [decide_eq_true h, le_z, low, Bool.true_and]
  · simp only [decide_eq_false h, low, Bool.false_and]
theorem name_ev {s : Str} (h : nameS s = true) : runP 2 PD.m_is_name [.str s] = some (.bool true) := by
  simp only [nameS, Bool.and_eq_true, decide_eq_true_eq] at h
  obtain ⟨h1, h2, h3⟩ := h
  unfold runP PD.m_is_name
  simp only [mSeq, mPut, mOp, mVar, mC, mIfS, mTest, mTr, mNot, mAsg, mgName, mgTup, mgSeq, mgCons, mgNil, mCB, mCons, mNil, mRet, mRetN, mNext, mPar, mParO, mParOO, mLstN, mAnd, mOr, mAndV, mOrV, mNotV, mIf, mTup, mLst, mSl, mPart, mNoPart, mCall, mCallK, mCallF, mDrop, mDat, mOwn, mListN, mUn, mStar, seqD, flat_l, flat_k, refs1_l, refs1_k, refsB_nil, refsB_cons, mApp, mPop0, mChain, mIsi, mRange, mItems, mEnum, mAnyI, mYes, seqOf, frz, isiB, truD, perm, List.filterMap_cons, List.filterMap_nil, AP.S.on, vw, vws, dats, wipeS, retD, vwE, gS_eq, sS_eq, st0, List.reduceReplicate, List.getElem?_cons_zero, List.getElem?_cons_succ, List.set_cons_zero, List.set_cons_succ, List.map_cons, List.map_nil, List.length_cons, List.length_nil, List.cons_append, List.nil_append, List.append_nil, and_self, and_true, true_and, if_true, if_false, decide_true, decide_false, Bool.and_self, Bool.and_true, Bool.true_and, Bool.not_true, Bool.not_false, Nat.reduceAdd, Nat.reduceSub, Nat.reduceLeDiff, Nat.reduceEqDiff, Nat.zero_add, Nat.zero_le, Int.reduceLT, Int.reduceNeg, gLen, show s.length ≤ 100000 by omega, gLeI, show (1 : Int) ≤ s.length by omega, show (s.length : Int) ≤ 8 by omega, lc_name s h2, boolsT, h3]
theorem name_ok {s : Str} (h : nameS s = true) : PyData.strOk s = true := by
  simp only [nameS, Bool.and_eq_true, decide_eq_true_eq] at h
  unfold PyData.strOk
  rw [Array.all_eq_true']
  intro a ha
  have := List.all_eq_true.mp h.2.2 a (Array.mem_def.mp ha)
  simp [low] at this ⊢
  omega
theorem name_len {s : Str} (h : nameS s = true) : s.length ≤ 8 := by
  simp only [nameS, Bool.and_eq_true, decide_eq_true_eq] at h
  exact h.2.1
theorem ltS_irr {x : Str} : ¬ ltS x x := fun h => List.lt_irrefl _ h
theorem ltS_ne {x y : Str} (h : ltS x y) : x ≠ y := fun e => ltS_irr (e ▸ h)
theorem up_nd {xs : List Str} (h : xs.Pairwise ltS) : xs.Nodup := h.imp fun h => ltS_ne h
theorem zip_up : ∀ {xs : List Str}, xs.Pairwise ltS → ∀ p ∈ xs.zip (xs.drop 1), ltS p.1 p.2
  | [], _, p, hp => by simp at hp
  | [x], _, p, hp => by simp at hp
  | x :: y :: r, h, p, hp => by
    rw [List.drop_one, List.tail_cons, List.zip_cons_cons] at hp
    rcases List.mem_cons.mp hp with e | hp
    · subst e
      exact (List.pairwise_cons.mp h).1 y List.mem_cons_self
    · exact zip_up (List.pairwise_cons.mp h).2 p (by simpa using hp)
theorem asc_ev {xs : List Str} (h : xs.Pairwise ltS) (hl : xs.length ≤ 100000) : runP 3 PD.m_is_ascending [T xs] = some (.bool true) := by
  have e : PD.lc_is_ascending_0 ⟨[some (.d (T xs)), none, none], []⟩ = some (.l ((xs.zip (xs.drop 1)).map fun p => .bool (decide (p.1.cps.toList < p.2.cps.toList))), []) := by
    unfold PD.lc_is_ascending_0
    refine lcA (fun p : Str × Str => .tuple [.str p.1, .str p.2]) (xs.zip (xs.drop 1)) (fun p => .bool (decide (p.1.cps.toList < p.2.cps.toList))) ?_ (by simp; omega) fun p _ acc => ⟨_, rfl, rfl, ?_⟩
    · simp only [mZipX, T]
      simp only [mSeq, mPut, mOp, mVar, mC, mIfS, mTest, mTr, mNot, mAsg, mgName, mgTup, mgSeq, mgCons, mgNil, mCB, mCons, mNil, mRet, mRetN, mNext, mPar, mParO, mParOO, mLstN, mAnd, mOr, mAndV, mOrV, mNotV, mIf, mTup, mLst, mSl, mPart, mNoPart, mCall, mCallK, mCallF, mDrop, mDat, mOwn, mListN, mUn, mStar, seqD, flat_l, flat_k, refs1_l, refs1_k, refsB_nil, refsB_cons, mApp, mPop0, mChain, mIsi, mRange, mItems, mEnum, mAnyI, mYes, seqOf, frz, isiB, truD, perm, List.filterMap_cons, List.filterMap_nil, AP.S.on, vw, vws, dats, wipeS, retD, vwE, gS_eq, sS_eq, st0, List.reduceReplicate, List.getElem?_cons_zero, List.getElem?_cons_succ, List.set_cons_zero, List.set_cons_succ, List.map_cons, List.map_nil, List.length_cons, List.length_nil, List.cons_append, List.nil_append, List.append_nil, and_self, and_true, true_and, if_true, if_false, decide_true, decide_false, Bool.and_self, Bool.and_true, Bool.true_and, Bool.not_true, Bool.not_false, Nat.reduceAdd, Nat.reduceSub, Nat.reduceLeDiff, Nat.reduceEqDiff, Nat.zero_add, Nat.zero_le, Int.reduceLT, Int.reduceNeg, gSl, cut_drop _ (show (0 : Int) ≤ 1 by decide), seqZ]
      rw [show ((1 : Int).toNat) = 1 from rfl, ← List.map_drop, zip_map]
    · simp only [mSeq, mPut, mOp, mVar, mC, mIfS, mTest, mTr, mNot, mAsg, mgName, mgTup, mgSeq, mgCons, mgNil, mCB, mCons, mNil, mRet, mRetN, mNext, mPar, mParO, mParOO, mLstN, mAnd, mOr, mAndV, mOrV, mNotV, mIf, mTup, mLst, mSl, mPart, mNoPart, mCall, mCallK, mCallF, mDrop, mDat, mOwn, mListN, mUn, mStar, seqD, flat_l, flat_k, refs1_l, refs1_k, refsB_nil, refsB_cons, mApp, mPop0, mChain, mIsi, mRange, mItems, mEnum, mAnyI, mYes, seqOf, frz, isiB, truD, perm, List.filterMap_cons, List.filterMap_nil, AP.S.on, vw, vws, dats, wipeS, retD, vwE, gS_eq, sS_eq, st0, List.reduceReplicate, List.getElem?_cons_zero, List.getElem?_cons_succ, List.set_cons_zero, List.set_cons_succ, List.map_cons, List.map_nil, List.length_cons, List.length_nil, List.cons_append, List.nil_append, List.append_nil, and_self, and_true, true_and, if_true, if_false, decide_true, decide_false, Bool.and_self, Bool.and_true, Bool.true_and, Bool.not_true, Bool.not_false, Nat.reduceAdd, Nat.reduceSub, Nat.reduceLeDiff, Nat.reduceEqDiff, Nat.zero_add, Nat.zero_le, Int.reduceLT, Int.reduceNeg, gLtS]
  unfold runP PD.m_is_ascending
  simp only [mSeq, mPut, mOp, mVar, mC, mIfS, mTest, mTr, mNot, mAsg, mgName, mgTup, mgSeq, mgCons, mgNil, mCB, mCons, mNil, mRet, mRetN, mNext, mPar, mParO, mParOO, mLstN, mAnd, mOr, mAndV, mOrV, mNotV, mIf, mTup, mLst, mSl, mPart, mNoPart, mCall, mCallK, mCallF, mDrop, mDat, mOwn, mListN, mUn, mStar, seqD, flat_l, flat_k, refs1_l, refs1_k, refsB_nil, refsB_cons, mApp, mPop0, mChain, mIsi, mRange, mItems, mEnum, mAnyI, mYes, seqOf, frz, isiB, truD, perm, List.filterMap_cons, List.filterMap_nil, AP.S.on, vw, vws, dats, wipeS, retD, vwE, gS_eq, sS_eq, st0, List.reduceReplicate, List.getElem?_cons_zero, List.getElem?_cons_succ, List.set_cons_zero, List.set_cons_succ, List.map_cons, List.map_nil, List.length_cons, List.length_nil, List.cons_append, List.nil_append, List.append_nil, and_self, and_true, true_and, if_true, if_false, decide_true, decide_false, Bool.and_self, Bool.and_true, Bool.true_and, Bool.not_true, Bool.not_false, Nat.reduceAdd, Nat.reduceSub, Nat.reduceLeDiff, Nat.reduceEqDiff, Nat.zero_add, Nat.zero_le, Int.reduceLT, Int.reduceNeg, e, boolsT]
  congr 2
  rw [List.all_eq_true]
  intro p hp
  exact decide_eq_true (zip_up h p hp)
theorem houses_ev {xs : List Str} (hn : ∀ a ∈ xs, nameS a = true) (h : xs.Pairwise ltS) (ne : xs ≠ []) (hl : xs.length ≤ 100000) : runP 2 PD.m_is_houses [T xs] = some (.bool true) := by
  have e : PD.lc_is_houses_0 ⟨[some (.d (T xs)), none], []⟩ = some (.l (xs.map fun x => .bool true), []) := by
    unfold PD.lc_is_houses_0
    refine lcA .str xs (fun _ => .bool true) rfl hl fun x hx acc => ⟨_, rfl, rfl, ?_⟩
    simp only [mSeq, mPut, mOp, mVar, mC, mIfS, mTest, mTr, mNot, mAsg, mgName, mgTup, mgSeq, mgCons, mgNil, mCB, mCons, mNil, mRet, mRetN, mNext, mPar, mParO, mParOO, mLstN, mAnd, mOr, mAndV, mOrV, mNotV, mIf, mTup, mLst, mSl, mPart, mNoPart, mCall, mCallK, mCallF, mDrop, mDat, mOwn, mListN, mUn, mStar, seqD, flat_l, flat_k, refs1_l, refs1_k, refsB_nil, refsB_cons, mApp, mPop0, mChain, mIsi, mRange, mItems, mEnum, mAnyI, mYes, seqOf, frz, isiB, truD, perm, List.filterMap_cons, List.filterMap_nil, AP.S.on, vw, vws, dats, wipeS, retD, vwE, gS_eq, sS_eq, st0, List.reduceReplicate, List.getElem?_cons_zero, List.getElem?_cons_succ, List.set_cons_zero, List.set_cons_succ, List.map_cons, List.map_nil, List.length_cons, List.length_nil, List.cons_append, List.nil_append, List.append_nil, and_self, and_true, true_and, if_true, if_false, decide_true, decide_false, Bool.and_self, Bool.and_true, Bool.true_and, Bool.not_true, Bool.not_false, Nat.reduceAdd, Nat.reduceSub, Nat.reduceLeDiff, Nat.reduceEqDiff, Nat.zero_add, Nat.zero_le, Int.reduceLT, Int.reduceNeg, name_ev (hn x hx)]
  have e0 : xs.isEmpty = false := by simpa using ne
  have e1 : (T xs) = .tuple (xs.map .str) := rfl
  unfold runP PD.m_is_houses
  rw [e1] at e ⊢
  simp only [mSeq, mPut, mOp, mVar, mC, mIfS, mTest, mTr, mNot, mAsg, mgName, mgTup, mgSeq, mgCons, mgNil, mCB, mCons, mNil, mRet, mRetN, mNext, mPar, mParO, mParOO, mLstN, mAnd, mOr, mAndV, mOrV, mNotV, mIf, mTup, mLst, mSl, mPart, mNoPart, mCall, mCallK, mCallF, mDrop, mDat, mOwn, mListN, mUn, mStar, seqD, flat_l, flat_k, refs1_l, refs1_k, refsB_nil, refsB_cons, mApp, mPop0, mChain, mIsi, mRange, mItems, mEnum, mAnyI, mYes, seqOf, frz, isiB, truD, perm, List.filterMap_cons, List.filterMap_nil, AP.S.on, vw, vws, dats, wipeS, retD, vwE, gS_eq, sS_eq, st0, List.reduceReplicate, List.getElem?_cons_zero, List.getElem?_cons_succ, List.set_cons_zero, List.set_cons_succ, List.map_cons, List.map_nil, List.length_cons, List.length_nil, List.cons_append, List.nil_append, List.append_nil, and_self, and_true, true_and, if_true, if_false, decide_true, decide_false, Bool.and_self, Bool.and_true, Bool.true_and, Bool.not_true, Bool.not_false, Nat.reduceAdd, Nat.reduceSub, Nat.reduceLeDiff, Nat.reduceEqDiff, Nat.zero_add, Nat.zero_le, Int.reduceLT, Int.reduceNeg, List.isEmpty_map, e0, e, boolsT, show xs.all (fun _ => true) = true by simp, show runP 3 PD.m_is_ascending [.tuple (xs.map .str)] = some (.bool true) from asc_ev h hl]
theorem pair_ev (a b : D) : runP 1 PD.m_is_pair [.tuple [a, b]] = some (.bool true) := rfl
theorem npair_ev {a b : Str} (ha : nameS a = true) (hb : nameS b = true) : runP 1 PD.m_is_name_pair [.tuple [.str a, .str b]] = some (.bool true) := by
  unfold runP PD.m_is_name_pair
  simp only [mSeq, mPut, mOp, mVar, mC, mIfS, mTest, mTr, mNot, mAsg, mgName, mgTup, mgSeq, mgCons, mgNil, mCB, mCons, mNil, mRet, mRetN, mNext, mPar, mParO, mParOO, mLstN, mAnd, mOr, mAndV, mOrV, mNotV, mIf, mTup, mLst, mSl, mPart, mNoPart, mCall, mCallK, mCallF, mDrop, mDat, mOwn, mListN, mUn, mStar, seqD, flat_l, flat_k, refs1_l, refs1_k, refsB_nil, refsB_cons, mApp, mPop0, mChain, mIsi, mRange, mItems, mEnum, mAnyI, mYes, seqOf, frz, isiB, truD, perm, List.filterMap_cons, List.filterMap_nil, AP.S.on, vw, vws, dats, wipeS, retD, vwE, gS_eq, sS_eq, st0, List.reduceReplicate, List.getElem?_cons_zero, List.getElem?_cons_succ, List.set_cons_zero, List.set_cons_succ, List.map_cons, List.map_nil, List.length_cons, List.length_nil, List.cons_append, List.nil_append, List.append_nil, and_self, and_true, true_and, if_true, if_false, decide_true, decide_false, Bool.and_self, Bool.and_true, Bool.true_and, Bool.not_true, Bool.not_false, Nat.reduceAdd, Nat.reduceSub, Nat.reduceLeDiff, Nat.reduceEqDiff, Nat.zero_add, Nat.zero_le, Int.reduceLT, Int.reduceNeg, pair_ev, gIx0, gIx1, name_ev ha, name_ev hb]
theorem wire_ev {a b : Str} (ha : nameS a = true) (hb : nameS b = true) (ne : a ≠ b) : runP 1 PD.m_is_wire [.tuple [.str a, .str b]] = some (.bool true) := by
  unfold runP PD.m_is_wire
  simp only [mSeq, mPut, mOp, mVar, mC, mIfS, mTest, mTr, mNot, mAsg, mgName, mgTup, mgSeq, mgCons, mgNil, mCB, mCons, mNil, mRet, mRetN, mNext, mPar, mParO, mParOO, mLstN, mAnd, mOr, mAndV, mOrV, mNotV, mIf, mTup, mLst, mSl, mPart, mNoPart, mCall, mCallK, mCallF, mDrop, mDat, mOwn, mListN, mUn, mStar, seqD, flat_l, flat_k, refs1_l, refs1_k, refsB_nil, refsB_cons, mApp, mPop0, mChain, mIsi, mRange, mItems, mEnum, mAnyI, mYes, seqOf, frz, isiB, truD, perm, List.filterMap_cons, List.filterMap_nil, AP.S.on, vw, vws, dats, wipeS, retD, vwE, gS_eq, sS_eq, st0, List.reduceReplicate, List.getElem?_cons_zero, List.getElem?_cons_succ, List.set_cons_zero, List.set_cons_succ, List.map_cons, List.map_nil, List.length_cons, List.length_nil, List.cons_append, List.nil_append, List.append_nil, and_self, and_true, true_and, if_true, if_false, decide_true, decide_false, Bool.and_self, Bool.and_true, Bool.true_and, Bool.not_true, Bool.not_false, Nat.reduceAdd, Nat.reduceSub, Nat.reduceLeDiff, Nat.reduceEqDiff, Nat.zero_add, Nat.zero_le, Int.reduceLT, Int.reduceNeg, npair_ev ha hb, gIx0, gIx1, gNeS, decide_eq_false ne]
def fdD (f : List (Str × Int)) : List (Key × D) := f.map fun p => (.inr p.1, .int p.2)
theorem inD_keys (f : Str → D) (xs : List Str) (a : Str) : gInB (.str a) (.dict (kvD (xs.map fun x => (.inr x, f x)))) = some (decide (a ∈ xs)) := by
  have e : ∀ ps, gInB (.str a) (.dict ps) = some (getP ps (.inr a)).isSome := fun ps => rfl
  rw [e, getP_kv]
  congr 1
  induction xs with
  | nil => rfl
  | cons x r ih =>
    rw [List.map_cons, List.find?_cons]
    by_cases h : x = a
    · subst h; simp
    · have h2 : decide ((Sum.inr x : Key) = Sum.inr a) = false := decide_eq_false fun z => h (Sum.inr.inj z)
      simp only [h2]
      rw [ih]
      simp [Ne.symm h]
theorem inT (a : Str) (xs : List Str) (ha : nameS a = true) (hx : ∀ x ∈ xs, nameS x = true) : gIn (.str a) (T xs) = some (.bool (decide (a ∈ xs))) := by
  rw [gIn_T (name_ok ha) fun x h => name_ok (hx x h)]
  congr 2
  rw [Bool.eq_iff_iff, List.contains_iff_mem, decide_eq_true_eq]
theorem notInT (a : Str) (xs : List Str) (ha : nameS a = true) (hx : ∀ x ∈ xs, nameS x = true) : gNotIn (.str a) (T xs) = some (.bool (!decide (a ∈ xs))) := by
  rw [gNotIn_T (name_ok ha) fun x h => name_ok (hx x h)]
  congr 3
  rw [Bool.eq_iff_iff, List.contains_iff_mem, decide_eq_true_eq]
theorem inD (f : Str → D) (xs : List Str) (a : Str) : gIn (.str a) (.dict (kvD (xs.map fun x => (.inr x, f x)))) = some (.bool (decide (a ∈ xs))) := by
  simp only [gIn, inD_keys, Option.map_some]
abbrev knownD (hs : List Str) : D := .dict (kvD (hs.map fun x => (.inr x, .bool true)))
theorem among_ev {xs hs : List Str} (hn : ∀ a ∈ xs, nameS a = true) (h : xs.Pairwise ltS) (ne : xs ≠ []) (hl : xs.length ≤ 100000) (sub : ∀ a ∈ xs, a ∈ hs) : runP 3 PD.m_is_set_among [T xs, knownD hs] = some (.bool true) := by
  have e : PD.lc_is_set_among_0 ⟨[some (.d (T xs)), some (.d (knownD hs)), none], []⟩ = some (.l (xs.map fun x => .bool true), []) := by
    unfold PD.lc_is_set_among_0
    refine lcA .str xs (fun _ => .bool true) rfl hl fun x hx acc => ⟨_, rfl, rfl, ?_⟩
    simp only [mSeq, mPut, mOp, mVar, mC, mIfS, mTest, mTr, mNot, mAsg, mgName, mgTup, mgSeq, mgCons, mgNil, mCB, mCons, mNil, mRet, mRetN, mNext, mPar, mParO, mParOO, mLstN, mAnd, mOr, mAndV, mOrV, mNotV, mIf, mTup, mLst, mSl, mPart, mNoPart, mCall, mCallK, mCallF, mDrop, mDat, mOwn, mListN, mUn, mStar, seqD, flat_l, flat_k, refs1_l, refs1_k, refsB_nil, refsB_cons, mApp, mPop0, mChain, mIsi, mRange, mItems, mEnum, mAnyI, mYes, seqOf, frz, isiB, truD, perm, List.filterMap_cons, List.filterMap_nil, AP.S.on, vw, vws, dats, wipeS, retD, vwE, gS_eq, sS_eq, st0, List.reduceReplicate, List.getElem?_cons_zero, List.getElem?_cons_succ, List.set_cons_zero, List.set_cons_succ, List.map_cons, List.map_nil, List.length_cons, List.length_nil, List.cons_append, List.nil_append, List.append_nil, and_self, and_true, true_and, if_true, if_false, decide_true, decide_false, Bool.and_self, Bool.and_true, Bool.true_and, Bool.not_true, Bool.not_false, Nat.reduceAdd, Nat.reduceSub, Nat.reduceLeDiff, Nat.reduceEqDiff, Nat.zero_add, Nat.zero_le, Int.reduceLT, Int.reduceNeg, inD, sub x hx]
  unfold runP PD.m_is_set_among
  simp only [mSeq, mPut, mOp, mVar, mC, mIfS, mTest, mTr, mNot, mAsg, mgName, mgTup, mgSeq, mgCons, mgNil, mCB, mCons, mNil, mRet, mRetN, mNext, mPar, mParO, mParOO, mLstN, mAnd, mOr, mAndV, mOrV, mNotV, mIf, mTup, mLst, mSl, mPart, mNoPart, mCall, mCallK, mCallF, mDrop, mDat, mOwn, mListN, mUn, mStar, seqD, flat_l, flat_k, refs1_l, refs1_k, refsB_nil, refsB_cons, mApp, mPop0, mChain, mIsi, mRange, mItems, mEnum, mAnyI, mYes, seqOf, frz, isiB, truD, perm, List.filterMap_cons, List.filterMap_nil, AP.S.on, vw, vws, dats, wipeS, retD, vwE, gS_eq, sS_eq, st0, List.reduceReplicate, List.getElem?_cons_zero, List.getElem?_cons_succ, List.set_cons_zero, List.set_cons_succ, List.map_cons, List.map_nil, List.length_cons, List.length_nil, List.cons_append, List.nil_append, List.append_nil, and_self, and_true, true_and, if_true, if_false, decide_true, decide_false, Bool.and_self, Bool.and_true, Bool.true_and, Bool.not_true, Bool.not_false, Nat.reduceAdd, Nat.reduceSub, Nat.reduceLeDiff, Nat.reduceEqDiff, Nat.zero_add, Nat.zero_le, Int.reduceLT, Int.reduceNeg, houses_ev hn h ne hl, e, boolsT, show xs.all (fun _ => true) = true by simp]
theorem wamong_ev {a b : Str} {hs : List Str} (ha : nameS a = true) (hb : nameS b = true) (ne : a ≠ b) (h1 : a ∈ hs) (h2 : b ∈ hs) : runP 2 PD.m_is_wire_among [.tuple [.str a, .str b], knownD hs] = some (.bool true) := by
  unfold runP PD.m_is_wire_among
  simp only [mSeq, mPut, mOp, mVar, mC, mIfS, mTest, mTr, mNot, mAsg, mgName, mgTup, mgSeq, mgCons, mgNil, mCB, mCons, mNil, mRet, mRetN, mNext, mPar, mParO, mParOO, mLstN, mAnd, mOr, mAndV, mOrV, mNotV, mIf, mTup, mLst, mSl, mPart, mNoPart, mCall, mCallK, mCallF, mDrop, mDat, mOwn, mListN, mUn, mStar, seqD, flat_l, flat_k, refs1_l, refs1_k, refsB_nil, refsB_cons, mApp, mPop0, mChain, mIsi, mRange, mItems, mEnum, mAnyI, mYes, seqOf, frz, isiB, truD, perm, List.filterMap_cons, List.filterMap_nil, AP.S.on, vw, vws, dats, wipeS, retD, vwE, gS_eq, sS_eq, st0, List.reduceReplicate, List.getElem?_cons_zero, List.getElem?_cons_succ, List.set_cons_zero, List.set_cons_succ, List.map_cons, List.map_nil, List.length_cons, List.length_nil, List.cons_append, List.nil_append, List.append_nil, and_self, and_true, true_and, if_true, if_false, decide_true, decide_false, Bool.and_self, Bool.and_true, Bool.true_and, Bool.not_true, Bool.not_false, Nat.reduceAdd, Nat.reduceSub, Nat.reduceLeDiff, Nat.reduceEqDiff, Nat.zero_add, Nat.zero_le, Int.reduceLT, Int.reduceNeg, wire_ev ha hb ne, gIx0, gIx1, inD, h1, h2]
structure OkN (hs : List Str) (ws : List (Str × Str)) : Prop where
  nm : ∀ a ∈ hs, nameS a = true
  up : hs.Pairwise ltS
  ne : hs ≠ []
  hl : hs.length ≤ 100
  wl : ws.length ≤ 1000
  wk : okW hs ws
abbrev W (ws : List (Str × Str)) : D := .tuple (ws.map pr)
theorem lets_net_ev {hs : List Str} {ws : List (Str × Str)} (g : OkN hs ws) : runP 7 PD.m_lets_net [net hs ws] = some (.int ws.length) := by
  have dc : PD.lc_lets_net_0 ⟨[some (.d (net hs ws)), none, some (.d (T hs)), some (.d (W ws)), none, none, none], []⟩ = some (.k (hs.map fun x => (.inr x, .bool true)), []) := by
    unfold PD.lc_lets_net_0
    exact dcT hs (fun _ => .bool true) rfl (up_nd g.up) (by have := g.hl; omega) fun x hx acc => ⟨_, rfl, rfl, rfl, rfl, rfl⟩
  have fl : ∃ s', PD.fl_lets_net_2 ⟨[some (.d (net hs ws)), some (.d (knownD hs)), some (.d (T hs)), some (.d (W ws)), none, none, none], []⟩ = some (.nx s') ∧ ∃ a4 a5 a6, s' = (⟨[some (.d (net hs ws)), some (.d (knownD hs)), some (.d (T hs)), some (.d (W ws)), a4, a5, a6], []⟩ : S) := by
    unfold PD.fl_lets_net_2
    refine forF (fun p : (Str × Str) × Nat => PyData.tuple [.int (p.2 : Nat), pr p.1]) ws.zipIdx (β := Unit) (fun _ s' => ∃ a4 a5 a6, s' = (⟨[some (.d (net hs ws)), some (.d (knownD hs)), some (.d (T hs)), some (.d (W ws)), a4, a5, a6], []⟩ : S)) (fun _ _ => ()) () ?_ ⟨_, _, _, rfl⟩ ?_
    · simp only [mSeq, mPut, mOp, mVar, mC, mIfS, mTest, mTr, mNot, mAsg, mgName, mgTup, mgSeq, mgCons, mgNil, mCB, mCons, mNil, mRet, mRetN, mNext, mPar, mParO, mParOO, mLstN, mAnd, mOr, mAndV, mOrV, mNotV, mIf, mTup, mLst, mSl, mPart, mNoPart, mCall, mCallK, mCallF, mDrop, mDat, mOwn, mListN, mUn, mStar, seqD, flat_l, flat_k, refs1_l, refs1_k, refsB_nil, refsB_cons, mApp, mPop0, mChain, mIsi, mRange, mItems, mEnum, mAnyI, mYes, seqOf, frz, isiB, truD, perm, List.filterMap_cons, List.filterMap_nil, AP.S.on, vw, vws, dats, wipeS, retD, vwE, gS_eq, sS_eq, st0, List.reduceReplicate, List.getElem?_cons_zero, List.getElem?_cons_succ, List.set_cons_zero, List.set_cons_succ, List.map_cons, List.map_nil, List.length_cons, List.length_nil, List.cons_append, List.nil_append, List.append_nil, and_self, and_true, true_and, if_true, if_false, decide_true, decide_false, Bool.and_self, Bool.and_true, Bool.true_and, Bool.not_true, Bool.not_false, Nat.reduceAdd, Nat.reduceSub, Nat.reduceLeDiff, Nat.reduceEqDiff, Nat.zero_add, Nat.zero_le, Int.reduceLT, Int.reduceNeg, W, enum0]
    · rintro ⟨p, i⟩ hx _ s ⟨a4, a5, a6, rfl⟩
      obtain ⟨o1, o2, o3⟩ := g.wk p (List.fst_mem_of_mem_zipIdx hx)
      refine ⟨_, _, rfl, .inl ?_, some (.d (.int (i : Nat))), some (.d (pr p)), a6, rfl⟩
      unfold PD.fb_lets_net_1
      simp only [mSeq, mPut, mOp, mVar, mC, mIfS, mTest, mTr, mNot, mAsg, mgName, mgTup, mgSeq, mgCons, mgNil, mCB, mCons, mNil, mRet, mRetN, mNext, mPar, mParO, mParOO, mLstN, mAnd, mOr, mAndV, mOrV, mNotV, mIf, mTup, mLst, mSl, mPart, mNoPart, mCall, mCallK, mCallF, mDrop, mDat, mOwn, mListN, mUn, mStar, seqD, flat_l, flat_k, refs1_l, refs1_k, refsB_nil, refsB_cons, mApp, mPop0, mChain, mIsi, mRange, mItems, mEnum, mAnyI, mYes, seqOf, frz, isiB, truD, perm, List.filterMap_cons, List.filterMap_nil, AP.S.on, vw, vws, dats, wipeS, retD, vwE, gS_eq, sS_eq, st0, List.reduceReplicate, List.getElem?_cons_zero, List.getElem?_cons_succ, List.set_cons_zero, List.set_cons_succ, List.map_cons, List.map_nil, List.length_cons, List.length_nil, List.cons_append, List.nil_append, List.append_nil, and_self, and_true, true_and, if_true, if_false, decide_true, decide_false, Bool.and_self, Bool.and_true, Bool.true_and, Bool.not_true, Bool.not_false, Nat.reduceAdd, Nat.reduceSub, Nat.reduceLeDiff, Nat.reduceEqDiff, Nat.zero_add, Nat.zero_le, Int.reduceLT, Int.reduceNeg, pr, wamong_ev (g.nm _ o1) (g.nm _ o2) o3 o1 o2]
  obtain ⟨s', e, a4, a5, a6, rfl⟩ := fl
  have ho := houses_ev g.nm g.up g.ne (by have := g.hl; omega)
  unfold runP PD.m_lets_net
  unfold net W T at *
  simp only [mSeq, mPut, mOp, mVar, mC, mIfS, mTest, mTr, mNot, mAsg, mgName, mgTup, mgSeq, mgCons, mgNil, mCB, mCons, mNil, mRet, mRetN, mNext, mPar, mParO, mParOO, mLstN, mAnd, mOr, mAndV, mOrV, mNotV, mIf, mTup, mLst, mSl, mPart, mNoPart, mCall, mCallK, mCallF, mDrop, mDat, mOwn, mListN, mUn, mStar, seqD, flat_l, flat_k, refs1_l, refs1_k, refsB_nil, refsB_cons, mApp, mPop0, mChain, mIsi, mRange, mItems, mEnum, mAnyI, mYes, seqOf, frz, isiB, truD, perm, List.filterMap_cons, List.filterMap_nil, AP.S.on, vw, vws, dats, wipeS, retD, vwE, gS_eq, sS_eq, st0, List.reduceReplicate, List.getElem?_cons_zero, List.getElem?_cons_succ, List.set_cons_zero, List.set_cons_succ, List.map_cons, List.map_nil, List.length_cons, List.length_nil, List.cons_append, List.nil_append, List.append_nil, and_self, and_true, true_and, if_true, if_false, decide_true, decide_false, Bool.and_self, Bool.and_true, Bool.true_and, Bool.not_true, Bool.not_false, Nat.reduceAdd, Nat.reduceSub, Nat.reduceLeDiff, Nat.reduceEqDiff, Nat.zero_add, Nat.zero_le, Int.reduceLT, Int.reduceNeg, pair_ev, ho, dc, e, gLenT, List.length_map]
theorem need_net_ev {hs : List Str} {ws : List (Str × Str)} (g : OkN hs ws) : runP 1 PD.m_need_net [net hs ws] = some .none := by
  unfold runP PD.m_need_net
  simp only [mSeq, mPut, mOp, mVar, mC, mIfS, mTest, mTr, mNot, mAsg, mgName, mgTup, mgSeq, mgCons, mgNil, mCB, mCons, mNil, mRet, mRetN, mNext, mPar, mParO, mParOO, mLstN, mAnd, mOr, mAndV, mOrV, mNotV, mIf, mTup, mLst, mSl, mPart, mNoPart, mCall, mCallK, mCallF, mDrop, mDat, mOwn, mListN, mUn, mStar, seqD, flat_l, flat_k, refs1_l, refs1_k, refsB_nil, refsB_cons, mApp, mPop0, mChain, mIsi, mRange, mItems, mEnum, mAnyI, mYes, seqOf, frz, isiB, truD, perm, List.filterMap_cons, List.filterMap_nil, AP.S.on, vw, vws, dats, wipeS, retD, vwE, gS_eq, sS_eq, st0, List.reduceReplicate, List.getElem?_cons_zero, List.getElem?_cons_succ, List.set_cons_zero, List.set_cons_succ, List.map_cons, List.map_nil, List.length_cons, List.length_nil, List.cons_append, List.nil_append, List.append_nil, and_self, and_true, true_and, if_true, if_false, decide_true, decide_false, Bool.and_self, Bool.and_true, Bool.true_and, Bool.not_true, Bool.not_false, Nat.reduceAdd, Nat.reduceSub, Nat.reduceLeDiff, Nat.reduceEqDiff, Nat.zero_add, Nat.zero_le, Int.reduceLT, Int.reduceNeg, lets_net_ev g]
end
end
end PL

namespace PL
noncomputable section
open PySem PySem.Spec PyProof.Rows L2 RZ AP
abbrev Wr := Str × Str
abbrev Ld := Nat × Str × Str
abbrev Fd := List (Str × Int)
def keys (F : Fd) : List Str := F.map (·.1)
def ledOf (ws : List Wr) (gv : List Int) (p : Int) : List Ld := (ws.zipIdx.filter fun q => decide (gv[q.2]? = some p)).map fun q => (q.2, q.1.1, q.1.2)
theorem ledOf_mem {ws : List Wr} {gv : List Int} {p : Int} {k : Nat} {a b : Str} : (k, a, b) ∈ ledOf ws gv p ↔ ws[k]? = some (a, b) ∧ gv[k]? = some p := by
  unfold ledOf
  simp only [List.mem_map, List.mem_filter, decide_eq_true_eq, Prod.mk.injEq, Prod.exists]
  constructor
  · rintro ⟨u, v, i, ⟨h1, h2⟩, rfl, rfl, rfl⟩
    rw [List.mem_zipIdx_iff_getElem?] at h1
    exact ⟨h1, h2⟩
  · rintro ⟨h1, h2⟩
    exact ⟨a, b, k, ⟨List.mem_zipIdx_iff_getElem?.mpr h1, h2⟩, rfl, rfl, rfl⟩
def stp (h : Str) (st : Fd × List Str) (l : Ld) : Fd × List Str := if l.2.1 = h ∧ l.2.2 ∉ keys st.1 then (st.1 ++ [(l.2.2, (l.1 : Int))], st.2 ++ [l.2.2]) else st
def turn (led : List Ld) (st : Fd × List Str) : Fd × List Str := match st.2[st.2.length - 1]? with
  | some h => led.foldl (stp h) (st.1, st.2.dropLast)
  | none => st
def runW {β : Type} (c : β → Bool) (f : β → β) : Nat → β → β
  | 0, a => a
  | n + 1, a => if c a = true then runW c f n (f a) else a
def going (st : Fd × List Str) : Bool := !st.2.isEmpty
def comersF (ws : List Wr) (held : List Str) (gv : List Int) (p : Int) : Fd := (runW going (turn (ledOf ws gv p)) 200 (held.map (fun h => (h, -1)), held)).1
structure Comes (led : List Ld) (held : List Str) (F : Fd) : Prop where
  nd : (keys F).Nodup
  hd : ∀ a ∈ held, (a, -1) ∈ F
  src : ∀ (i : Nat) (b : Str) (k : Int), F[i]? = some (b, k) → (k = -1 ∧ b ∈ held) ∨ ∃ (n : Nat) (a : Str), k = n ∧ (n, a, b) ∈ led ∧ ∃ j, j < i ∧ ∃ k', F[j]? = some (a, k')
structure Inv (led : List Ld) (held hs : List Str) (st : Fd × List Str) : Prop extends Comes led held st.1 where
  sub : ∀ x ∈ keys st.1, x ∈ hs
  wt : ∀ x ∈ st.2, x ∈ keys st.1
  cl : ∀ k a b, (k, a, b) ∈ led → a ∈ keys st.1 → a ∈ st.2 ∨ b ∈ keys st.1
theorem keys_app (F G : Fd) : keys (F ++ G) = keys F ++ keys G := by unfold keys; rw [List.map_append]
theorem Comes.add {led : List Ld} {held : List Str} {F : Fd} (c : Comes led held F) {n : Nat} {a b : Str} (hl : (n, a, b) ∈ led) (ha : a ∈ keys F) (hb : b ∉ keys F) : Comes led held (F ++ [(b, (n : Int))]) := by
  refine ⟨?_, fun x hx => List.mem_append_left _ (c.hd x hx), fun i y k h => ?_⟩
  · rw [keys_app]
    refine List.nodup_append.mpr ⟨c.nd, by simp [keys], fun x hx y hy e => ?_⟩
    simp only [keys, List.map_cons, List.map_nil, List.mem_singleton] at hy
    subst hy; subst e
    exact hb hx
  · by_cases hi : i < F.length
    · rw [List.getElem?_append_left hi] at h
      rcases c.src i y k h with h | ⟨m, u, e1, e2, j, hj, k', e3⟩
      · exact .inl h
      · exact .inr ⟨m, u, e1, e2, j, hj, k', by rw [List.getElem?_append_left (by omega)]; exact e3⟩
    · rw [List.getElem?_append_right (by omega)] at h
      have hi2 : i - F.length = 0 := by
        have := (List.getElem?_eq_some_iff.mp h).1
        simp at this
        omega
      rw [hi2] at h
      simp at h
      obtain ⟨rfl, rfl⟩ := h
      obtain ⟨p, hp, e⟩ := List.mem_map.mp ha
      obtain ⟨j, hj, e2⟩ := List.getElem_of_mem hp
      refine .inr ⟨n, a, rfl, hl, j, by omega, p.2, ?_⟩
      rw [List.getElem?_append_left hj, List.getElem?_eq_getElem hj, e2]
      simp only [← e]
theorem stp_fold {led : List Ld} {held : List Str} {h : Str} : ∀ (l : List Ld) (st : Fd × List Str), (∀ x ∈ l, x ∈ led) → Comes led held st.1 → h ∈ keys st.1 →
    Comes led held (l.foldl (stp h) st).1 ∧ (∀ x ∈ keys st.1, x ∈ keys (l.foldl (stp h) st).1) ∧ (∀ x ∈ st.2, x ∈ (l.foldl (stp h) st).2) ∧ (∀ x ∈ keys (l.foldl (stp h) st).1, x ∈ keys st.1 ∨ x ∈ (l.foldl (stp h) st).2) ∧
      (∀ x ∈ (l.foldl (stp h) st).2, x ∈ st.2 ∨ x ∈ keys (l.foldl (stp h) st).1) ∧ (∀ k a b, (k, a, b) ∈ l → a = h → b ∈ keys (l.foldl (stp h) st).1) ∧
      (∀ x ∈ keys (l.foldl (stp h) st).1, x ∈ keys st.1 ∨ ∃ k a, (k, a, x) ∈ l) ∧
      (l.foldl (stp h) st).2.length + (keys st.1).length = st.2.length + (keys (l.foldl (stp h) st).1).length
  | [], st, _, c, _ => ⟨c, fun _ h => h, fun _ h => h, fun _ h => .inl h, fun _ h => .inl h, fun _ _ _ h => absurd h (by simp), fun _ h => .inl h, by simp only [List.foldl_nil]⟩
  | (k, a, b) :: r, st, hl, c, hh => by
    rw [List.foldl_cons]
    by_cases q : a = h ∧ b ∉ keys st.1
    · have e : stp h st (k, a, b) = (st.1 ++ [(b, (k : Int))], st.2 ++ [b]) := by unfold stp; rw [if_pos q]
      obtain ⟨rfl, qb⟩ := q
      have c2 := c.add (hl _ List.mem_cons_self) hh qb
      have k2 : keys (st.1 ++ [(b, (k : Int))]) = keys st.1 ++ [b] := by rw [keys_app]; rfl
      obtain ⟨i1, i2, i3, i4, i5, i6, i7, i8⟩ := stp_fold r (st.1 ++ [(b, (k : Int))], st.2 ++ [b]) (fun x hx => hl x (List.mem_cons_of_mem _ hx)) c2 (by rw [k2]; exact List.mem_append_left _ hh)
      rw [e]
      generalize List.foldl (stp a) (st.1 ++ [(b, (k : Int))], st.2 ++ [b]) r = z at i1 i2 i3 i4 i5 i6 i7 i8 ⊢
      simp only [k2] at i2 i4 i7 i8
      refine ⟨i1, fun x hx => i2 x (List.mem_append_left _ hx), fun x hx => i3 x (List.mem_append_left _ hx), fun x hx => ?_, fun x hx => ?_, fun k' a' b' hm ea => ?_, fun x hx => ?_, ?_⟩
      · rcases i4 x hx with h | h
        · rcases List.mem_append.mp h with h | h
          · exact .inl h
          · exact .inr (i3 x (List.mem_append_right _ h))
        · exact .inr h
      · rcases i5 x hx with h | h
        · rcases List.mem_append.mp h with h | h
          · exact .inl h
          · exact .inr (i2 x (List.mem_append_right _ h))
        · exact .inr h
      · rcases List.mem_cons.mp hm with e2 | hm
        · cases e2
          exact i2 b (List.mem_append_right _ (by simp))
        · exact i6 k' a' b' hm ea
      · rcases i7 x hx with h | ⟨k', a', h⟩
        · rcases List.mem_append.mp h with h | h
          · exact .inl h
          · simp only [List.mem_singleton] at h
            exact .inr ⟨k, a, by rw [h]; exact List.mem_cons_self⟩
        · exact .inr ⟨k', a', List.mem_cons_of_mem _ h⟩
      · simp only [List.length_append, List.length_cons, List.length_nil] at i8
        omega
    · have e : stp h st (k, a, b) = st := by unfold stp; rw [if_neg q]
      rw [e]
      obtain ⟨i1, i2, i3, i4, i5, i6, i7, i8⟩ := stp_fold r st (fun x hx => hl x (List.mem_cons_of_mem _ hx)) c hh
      refine ⟨i1, i2, i3, i4, i5, fun k' a' b' hm ea => ?_, fun x hx => ?_, i8⟩
      · rcases List.mem_cons.mp hm with e2 | hm
        · cases e2
          by_cases hb : b ∈ keys st.1
          · exact i2 b hb
          · exact absurd ⟨ea, hb⟩ q
        · exact i6 k' a' b' hm ea
      · rcases i7 x hx with h | ⟨k', a', h⟩
        · exact .inl h
        · exact .inr ⟨k', a', List.mem_cons_of_mem _ h⟩
theorem nd_le {α : Type} [DecidableEq α] : ∀ {xs hs : List α}, xs.Nodup → (∀ x ∈ xs, x ∈ hs) → xs.length ≤ hs.length
  | [], _, _, _ => Nat.zero_le _
  | x :: xs, hs, h, s => by
    obtain ⟨h1, h2⟩ := List.nodup_cons.mp h
    have hx := s x List.mem_cons_self
    have := nd_le (hs := hs.erase x) h2 fun y hy => (List.mem_erase_of_ne (fun e : y = x => h1 (e ▸ hy))).mpr (s y (List.mem_cons_of_mem _ hy))
    rw [List.length_erase_of_mem hx] at this
    have := List.length_pos_of_mem hx
    simp only [List.length_cons]
    omega
def mu (hs : List Str) (st : Fd × List Str) : Nat := hs.length - (keys st.1).length + st.2.length
theorem inv_turn {led : List Ld} {held hs : List Str} {st : Fd × List Str} (lh : ∀ k a b, (k, a, b) ∈ led → b ∈ hs) (i : Inv led held hs st) (g : going st = true) : Inv led held hs (turn led st) ∧ mu hs (turn led st) < mu hs st := by
  obtain ⟨F, w⟩ := st
  have wn : w ≠ [] := by
    intro e
    simp [going, e] at g
  have hl : w.length - 1 < w.length := by
    have := List.length_pos_iff.mpr wn
    omega
  have e1 : w[w.length - 1]? = some (w.getLast wn) := by
    rw [List.getElem?_eq_getElem hl, List.getLast_eq_getElem]
  have e2 : turn led (F, w) = led.foldl (stp (w.getLast wn)) (F, w.dropLast) := by
    unfold turn
    simp only [e1]
  have hw := i.wt (w.getLast wn) (List.getLast_mem wn)
  obtain ⟨i1, i2, i3, i4, i5, i6, i7, i8⟩ := stp_fold (led := led) (held := held) (h := w.getLast wn) led (F, w.dropLast) (fun _ h => h) i.toComes hw
  rw [e2]
  generalize led.foldl (stp (w.getLast wn)) (F, w.dropLast) = z at i1 i2 i3 i4 i5 i6 i7 i8 ⊢
  have sub : ∀ x ∈ keys z.1, x ∈ hs := fun x hx => by
    rcases i7 x hx with h | ⟨k, a, h⟩
    · exact i.sub x h
    · exact lh k a x h
  refine ⟨⟨i1, sub, fun x hx => ?_, fun k a b hm ha => ?_⟩, ?_⟩
  · rcases i5 x hx with h | h
    · exact i2 x (i.wt x ((List.dropLast_sublist w).subset h))
    · exact h
  · rcases i4 a ha with h | h
    · rcases i.cl k a b hm h with h2 | h2
      · have e3 := List.dropLast_concat_getLast wn
        rw [← e3] at h2
        rcases List.mem_append.mp h2 with h3 | h3
        · exact .inl (i3 a h3)
        · simp only [List.mem_singleton] at h3
          exact .inr (i6 k a b hm h3)
      · exact .inr (i2 b h2)
    · exact .inl h
  · have n1 := nd_le i.nd i.sub
    have n2 := nd_le i1.nd sub
    simp only [List.length_dropLast] at i8
    unfold mu
    simp only at *
    omega
theorem runW_inv {β : Type} {c : β → Bool} {f : β → β} {I : β → Prop} {μ : β → Nat} (h : ∀ a, I a → c a = true → I (f a) ∧ μ (f a) < μ a) : ∀ n a, I a → μ a < n → I (runW c f n a) ∧ c (runW c f n a) = false
  | 0, a, _, hn => absurd hn (Nat.not_lt_zero _)
  | n + 1, a, i, hn => by
    unfold runW
    by_cases hc : c a = true
    · rw [if_pos hc]
      obtain ⟨i2, m⟩ := h a i hc
      exact runW_inv h n (f a) i2 (by omega)
    · rw [if_neg hc]
      exact ⟨i, by simpa using hc⟩
theorem keys_held (held : List Str) : keys (held.map fun h => (h, (-1 : Int))) = held := by
  unfold keys
  rw [List.map_map]
  exact List.map_id' held
theorem inv0 {led : List Ld} {held hs : List Str} (nd : held.Nodup) (sub : ∀ a ∈ held, a ∈ hs) : Inv led held hs (held.map (fun h => (h, -1)), held) := by
  refine ⟨⟨?_, fun a ha => List.mem_map.mpr ⟨a, ha, rfl⟩, fun i b k h => ?_⟩, ?_, ?_, ?_⟩
  · rw [keys_held]; exact nd
  · rw [List.getElem?_map] at h
    obtain ⟨x, hx, e⟩ := Option.map_eq_some_iff.mp h
    cases e
    exact .inl ⟨rfl, List.mem_of_getElem? hx⟩
  · rw [keys_held]; exact sub
  · rw [keys_held]; exact fun x h => h
  · rw [keys_held]; exact fun k a b _ h => .inl h
theorem comersF_ok {ws : List Wr} {held hs : List Str} {gv : List Int} {p : Int} (wk : okW hs ws) (nd : held.Nodup) (sub : ∀ a ∈ held, a ∈ hs) (hl : hs.length ≤ 100) :
    Comes (ledOf ws gv p) held (comersF ws held gv p) ∧ (∀ x ∈ keys (comersF ws held gv p), x ∈ hs) ∧ ∀ k a b, (k, a, b) ∈ ledOf ws gv p → a ∈ keys (comersF ws held gv p) → b ∈ keys (comersF ws held gv p) := by
  have i0 := inv0 (led := ledOf ws gv p) nd sub
  have m0 : mu hs (held.map (fun h => (h, -1)), held) < 200 := by
    unfold mu
    rw [keys_held]
    have := nd_le nd sub
    simp only
    omega
  obtain ⟨i, g⟩ := runW_inv (c := going) (f := turn (ledOf ws gv p)) (I := Inv (ledOf ws gv p) held hs) (μ := mu hs) (fun a i g => inv_turn (fun k a b h => (wk _ (List.mem_of_getElem? (ledOf_mem.mp h).1)).2.1) i g) 200 _ i0 m0
  refine ⟨i.toComes, i.sub, fun k a b hm ha => ?_⟩
  rcases i.cl k a b hm ha with h | h
  · simp only [going, Bool.not_eq_false', List.isEmpty_iff] at g
    rw [g] at h
    cases h
  · exact h
inductive Reach (ws : List Wr) (held : List Str) (gv : List Int) (p : Int) : Str → Prop
  | at_ {a : Str} : a ∈ held → Reach ws held gv p a
  | by_ {k : Nat} {a b : Str} : Reach ws held gv p a → ws[k]? = some (a, b) → gv[k]? = some p → Reach ws held gv p b
theorem Comes.reach {ws : List Wr} {held : List Str} {gv : List Int} {p : Int} {F : Fd} (c : Comes (ledOf ws gv p) held F) : ∀ (i : Nat) (b : Str) (k : Int), F[i]? = some (b, k) → Reach ws held gv p b := by
  intro i
  induction i using Nat.strongRecOn with
  | ind i ih =>
    intro b k h
    rcases c.src i b k h with ⟨_, hb⟩ | ⟨n, a, _, hl, j, hj, k', hj2⟩
    · exact .at_ hb
    · obtain ⟨h1, h2⟩ := ledOf_mem.mp hl
      exact .by_ (ih j hj a k' hj2) h1 h2
theorem comers_iff {ws : List Wr} {held hs : List Str} {gv : List Int} {p : Int} (wk : okW hs ws) (nd : held.Nodup) (sub : ∀ a ∈ held, a ∈ hs) (hl : hs.length ≤ 100) (x : Str) : x ∈ keys (comersF ws held gv p) ↔ Reach ws held gv p x := by
  obtain ⟨c, _, cl⟩ := comersF_ok (gv := gv) (p := p) wk nd sub hl
  constructor
  · intro h
    obtain ⟨q, hq, e⟩ := List.mem_map.mp h
    obtain ⟨i, hi, e2⟩ := List.getElem_of_mem hq
    exact c.reach i x q.2 (by rw [List.getElem?_eq_getElem hi, e2, ← e])
  · intro h
    induction h with
    | at_ ha => exact List.mem_map.mpr ⟨_, c.hd _ ha, rfl⟩
    | by_ _ h1 h2 ih => exact cl _ _ _ (ledOf_mem.mpr ⟨h1, h2⟩) ih
end
end PL

namespace PL
noncomputable section
open PySem PySem.Spec PyProof.Rows L2 RZ AP
section
variable [Tbls] [Gd]
theorem whileT {β : Type} {c : TM} {b : SM} (R : β → S → Prop) (I : β → Prop) (cond : β → Bool) (step : β → β) (μ : β → Nat) (hc : ∀ a s, R a s → c s = some (cond a, s.o)) (hb : ∀ a s, R a s → I a → cond a = true → ∃ s2, b s = some (.nx s2) ∧ R (step a) s2)
    (hi : ∀ a, I a → cond a = true → I (step a) ∧ μ (step a) < μ a) : ∀ n a s, R a s → I a → μ a < n → ∃ s', whileM c b n s = some (.nx s') ∧ R (runW cond step n a) s'
  | 0, _, _, _, _, h => absurd h (Nat.not_lt_zero _)
  | n + 1, a, s, r, i, h => by
    unfold whileM runW
    rw [hc a s r]
    cases e : cond a with
    | false =>
      simp only [Bool.false_eq_true, if_false]
      exact ⟨s, rfl, r⟩
    | true =>
      simp only [if_true]
      obtain ⟨s2, h2, r2⟩ := hb a s r i e
      obtain ⟨i2, m2⟩ := hi a i e
      rw [show s.on s.o = s from rfl, h2]
      exact whileT R I cond step μ hc hb hi n (step a) s2 r2 i2 (by omega)
abbrev IT (gv : List Int) : D := .tuple (gv.map .int)
abbrev encL (l : Ld) : D := .tuple [.int (l.1 : Int), .str l.2.1, .str l.2.2]
theorem inK (ps : List (Key × D)) (a : Str) : gInB (.str a) (.dict (kvD ps)) = some (ps.any fun p => decide (p.1 = .inr a)) := by
  have e : ∀ ps, gInB (.str a) (.dict ps) = some (getP ps (.inr a)).isSome := fun ps => rfl
  rw [e, getP_kv]
  congr 1
  induction ps with
  | nil => rfl
  | cons x r ih =>
    rw [List.find?_cons, List.any_cons]
    by_cases h : x.1 = .inr a
    · simp [h]
    · have h2 : decide (x.1 = Sum.inr a) = false := decide_eq_false h
      simp only [h2]
      rw [ih, Bool.false_or]
theorem fdD_keys (F : Fd) : (fdD F).map (·.1) = (keys F).map Sum.inr := by
  unfold fdD keys
  rw [List.map_map, List.map_map]
  rfl
theorem inF (F : Fd) (a : Str) : gIn (.str a) (.dict (kvD (fdD F))) = some (.bool (decide (a ∈ keys F))) := by
  simp only [gIn, inK, Option.map_some]
  congr 2
  rw [Bool.eq_iff_iff, List.any_eq_true, decide_eq_true_eq]
  unfold fdD keys
  constructor
  · rintro ⟨q, hq, e⟩
    obtain ⟨y, hy, rfl⟩ := List.mem_map.mp hq
    have := of_decide_eq_true e
    cases this
    exact List.mem_map.mpr ⟨y, hy, rfl⟩
  · intro h
    obtain ⟨y, hy, rfl⟩ := List.mem_map.mp h
    exact ⟨_, List.mem_map.mpr ⟨y, hy, rfl⟩, decide_eq_true rfl⟩
theorem notInF (F : Fd) (a : Str) : gNotIn (.str a) (.dict (kvD (fdD F))) = some (.bool (!decide (a ∈ keys F))) := by
  have := inF F a
  simp only [gIn, Option.map_eq_some_iff] at this
  obtain ⟨x, h1, h2⟩ := this
  cases h2
  simp only [gNotIn, h1, Option.map_some]
theorem fdD_nd {F : Fd} (h : (keys F).Nodup) : ((fdD F).map (·.1)).Nodup := by
  rw [fdD_keys]
  exact nd_inr h
theorem fdD_put {F : Fd} {b : Str} {v : Int} (h : b ∉ keys F) : putD (fdD F) (.inr b) (.int v) = fdD (F ++ [(b, v)]) := by
  rw [putD_new]
  · unfold fdD
    rw [List.map_append]
    rfl
  · rw [fdD_keys]
    intro hm
    obtain ⟨y, hy, e⟩ := List.mem_map.mp hm
    cases e
    exact h hy
theorem keys_len (F : Fd) : (keys F).length = F.length := by unfold keys; rw [List.length_map]
section
variable {hs : List Str} {ws : List Wr} {held : List Str} {gv : List Int} {p : Int}
def stC (hs : List Str) (ws : List Wr) (held : List Str) (gv : List Int) (p : Int) (F : Fd) (w : List Str) (a7 a8 a9 a10 : Option SV) : S :=
  ⟨[some (.d (net hs ws)), some (.d (T held)), some (.d (IT gv)), some (.d (.int p)), some (.d (.list ((ledOf ws gv p).map encL))), some (.m 0), some (.m 1), a7, a8, a9, a10], [.k (fdD F), .l (w.map .str)]⟩
def RC (hs : List Str) (ws : List Wr) (held : List Str) (gv : List Int) (p : Int) (st : Fd × List Str) (s : S) : Prop := ∃ a7 a8 a9 a10, s = stC hs ws held gv p st.1 st.2 a7 a8 a9 a10
theorem len_at {α : Type} (w : List α) (h : w ≠ []) : ∃ x, w[w.length - 1]? = some x := by
  have : w.length - 1 < w.length := by
    have := List.length_pos_iff.mpr h
    omega
  exact ⟨_, List.getElem?_eq_getElem this⟩
theorem fb_ct {F : Fd} {w : List Str} {h : Str} {l : Ld} (nd : (keys F).Nodup) (fl : F.length < 1000) (wl : w.length < 1000) : PD.fb_comers_to_2 (stC hs ws held gv p F w (some (.d (.str h))) (some (.d (.int l.1))) (some (.d (.str l.2.1))) (some (.d (.str l.2.2)))) =
    some (.nx (stC hs ws held gv p (stp h (F, w) l).1 (stp h (F, w) l).2 (some (.d (.str h))) (some (.d (.int l.1))) (some (.d (.str l.2.1))) (some (.d (.str l.2.2))))) := by
  obtain ⟨k, a, b⟩ := l
  unfold PD.fb_comers_to_2 stC
  by_cases h1 : a = h
  · by_cases h2 : b ∈ keys F
    · have e : stp h (F, w) (k, a, b) = (F, w) := by unfold stp; rw [if_neg fun z => z.2 h2]
      rw [e]
      simp only [mSeq, mPut, mOp, mVar, mC, mIfS, mTest, mTr, mNot, mAsg, mgName, mgTup, mgSeq, mgCons, mgNil, mCB, mCons, mNil, mRet, mRetN, mNext, mPar, mParO, mParOO, mLstN, mAnd, mOr, mAndV, mOrV, mNotV, mIf, mTup, mLst, mSl, mPart, mNoPart, mCall, mCallK, mCallF, mDrop, mDat, mOwn, mListN, mUn, mStar, seqD, flat_l, flat_k, refs1_l, refs1_k, refsB_nil, refsB_cons, mApp, mPop0, mChain, mIsi, mRange, mItems, mEnum, mAnyI, mYes, seqOf, frz, isiB, truD, perm, List.filterMap_cons, List.filterMap_nil, AP.S.on, vw, vws, dats, wipeS, retD, vwE, gS_eq, sS_eq, st0, List.reduceReplicate, List.getElem?_cons_zero, List.getElem?_cons_succ, List.set_cons_zero, List.set_cons_succ, List.map_cons, List.map_nil, List.length_cons, List.length_nil, List.cons_append, List.nil_append, List.append_nil, and_self, and_true, true_and, if_true, if_false, decide_true, decide_false, Bool.and_self, Bool.and_true, Bool.true_and, Bool.not_true, Bool.not_false, Nat.reduceAdd, Nat.reduceSub, Nat.reduceLeDiff, Nat.reduceEqDiff, Nat.zero_add, Nat.zero_le, Int.reduceLT, Int.reduceNeg, gEqS, notInF, decide_eq_true h1, decide_eq_true h2]
    · have e : stp h (F, w) (k, a, b) = (F ++ [(b, (k : Int))], w ++ [b]) := by unfold stp; rw [if_pos ⟨h1, h2⟩]
      rw [e]
      have f1 : (fdD F).length < 100000 := by unfold fdD; rw [List.length_map]; omega
      have w1 : (w.map PyData.str).length < 100000 := by rw [List.length_map]; omega
      simp only [mSeq, mPut, mOp, mVar, mC, mIfS, mTest, mTr, mNot, mAsg, mgName, mgTup, mgSeq, mgCons, mgNil, mCB, mCons, mNil, mRet, mRetN, mNext, mPar, mParO, mParOO, mLstN, mAnd, mOr, mAndV, mOrV, mNotV, mIf, mTup, mLst, mSl, mPart, mNoPart, mCall, mCallK, mCallF, mDrop, mDat, mOwn, mListN, mUn, mStar, seqD, flat_l, flat_k, refs1_l, refs1_k, refsB_nil, refsB_cons, mApp, mPop0, mChain, mIsi, mRange, mItems, mEnum, mAnyI, mYes, seqOf, frz, isiB, truD, perm, List.filterMap_cons, List.filterMap_nil, AP.S.on, vw, vws, dats, wipeS, retD, vwE, gS_eq, sS_eq, st0, List.reduceReplicate, List.getElem?_cons_zero, List.getElem?_cons_succ, List.set_cons_zero, List.set_cons_succ, List.map_cons, List.map_nil, List.length_cons, List.length_nil, List.cons_append, List.nil_append, List.append_nil, and_self, and_true, true_and, if_true, if_false, decide_true, decide_false, Bool.and_self, Bool.and_true, Bool.true_and, Bool.not_true, Bool.not_false, Nat.reduceAdd, Nat.reduceSub, Nat.reduceLeDiff, Nat.reduceEqDiff, Nat.zero_add, Nat.zero_le, Int.reduceLT, Int.reduceNeg, gEqS, notInF, decide_eq_true h1, decide_eq_false h2, tkS, f1, fdD_nd nd, fdD_put h2, w1, List.map_append]
  · have e : stp h (F, w) (k, a, b) = (F, w) := by unfold stp; rw [if_neg fun z => h1 z.1]
    rw [e]
    simp only [mSeq, mPut, mOp, mVar, mC, mIfS, mTest, mTr, mNot, mAsg, mgName, mgTup, mgSeq, mgCons, mgNil, mCB, mCons, mNil, mRet, mRetN, mNext, mPar, mParO, mParOO, mLstN, mAnd, mOr, mAndV, mOrV, mNotV, mIf, mTup, mLst, mSl, mPart, mNoPart, mCall, mCallK, mCallF, mDrop, mDat, mOwn, mListN, mUn, mStar, seqD, flat_l, flat_k, refs1_l, refs1_k, refsB_nil, refsB_cons, mApp, mPop0, mChain, mIsi, mRange, mItems, mEnum, mAnyI, mYes, seqOf, frz, isiB, truD, perm, List.filterMap_cons, List.filterMap_nil, AP.S.on, vw, vws, dats, wipeS, retD, vwE, gS_eq, sS_eq, st0, List.reduceReplicate, List.getElem?_cons_zero, List.getElem?_cons_succ, List.set_cons_zero, List.set_cons_succ, List.map_cons, List.map_nil, List.length_cons, List.length_nil, List.cons_append, List.nil_append, List.append_nil, and_self, and_true, true_and, if_true, if_false, decide_true, decide_false, Bool.and_self, Bool.and_true, Bool.true_and, Bool.not_true, Bool.not_false, Nat.reduceAdd, Nat.reduceSub, Nat.reduceLeDiff, Nat.reduceEqDiff, Nat.zero_add, Nat.zero_le, Int.reduceLT, Int.reduceNeg, gEqS, decide_eq_false h1]
structure Ok3 (hs : List Str) (ws : List Wr) (held : List Str) (gv : List Int) : Prop extends OkN hs ws where
  hn : held ≠ []
  hu : held.Pairwise ltS
  hsub : ∀ a ∈ held, a ∈ hs
  gl : gv.length = ws.length
theorem ct_ev (g : Ok3 hs ws held gv) : runP 11 PD.m_comers_to [net hs ws, T held, IT gv, .int p] = some (.dict (kvD (fdD (comersF ws held gv p)))) := by
  have e0 : PD.lc_comers_to_0 ⟨[some (.d (net hs ws)), some (.d (T held)), some (.d (IT gv)), some (.d (.int p)), none, none, none, none, none, none, none], []⟩ = some (.l ((ledOf ws gv p).map encL), []) := by
    unfold PD.lc_comers_to_0
    have := lcT (im := mEnum (mCons (mOp gIx (mVar 0) (mC (.int 1))) mNil)) (g := mgTup 2 (mgCons (mgName 8) (mgCons (mgTup 2 (mgCons (mgName 9) (mgCons (mgName 10) mgNil))) mgNil))) (c := mTest (mOp gEq (mOp gIx (mVar 2) (mVar 8)) (mVar 3)))
      (e := mTup (mCons (mVar 8) (mCons (mVar 9) (mCons (mVar 10) mNil)))) (vs := [8, 9, 10]) (s := ⟨[some (.d (net hs ws)), some (.d (T held)), some (.d (IT gv)), some (.d (.int p)), none, none, none, none, none, none, none], []⟩)
      (fun q : Wr × Nat => PyData.tuple [.int (q.2 : Nat), pr q.1]) ws.zipIdx (fun q => decide (gv[q.2]? = some p)) (fun q => encL (q.2, q.1.1, q.1.2)) (by
        unfold net
        simp only [mSeq, mPut, mOp, mVar, mC, mIfS, mTest, mTr, mNot, mAsg, mgName, mgTup, mgSeq, mgCons, mgNil, mCB, mCons, mNil, mRet, mRetN, mNext, mPar, mParO, mParOO, mLstN, mAnd, mOr, mAndV, mOrV, mNotV, mIf, mTup, mLst, mSl, mPart, mNoPart, mCall, mCallK, mCallF, mDrop, mDat, mOwn, mListN, mUn, mStar, seqD, flat_l, flat_k, refs1_l, refs1_k, refsB_nil, refsB_cons, mApp, mPop0, mChain, mIsi, mRange, mItems, mEnum, mAnyI, mYes, seqOf, frz, isiB, truD, perm, List.filterMap_cons, List.filterMap_nil, AP.S.on, vw, vws, dats, wipeS, retD, vwE, gS_eq, sS_eq, st0, List.reduceReplicate, List.getElem?_cons_zero, List.getElem?_cons_succ, List.set_cons_zero, List.set_cons_succ, List.map_cons, List.map_nil, List.length_cons, List.length_nil, List.cons_append, List.nil_append, List.append_nil, and_self, and_true, true_and, if_true, if_false, decide_true, decide_false, Bool.and_self, Bool.and_true, Bool.true_and, Bool.not_true, Bool.not_false, Nat.reduceAdd, Nat.reduceSub, Nat.reduceLeDiff, Nat.reduceEqDiff, Nat.zero_add, Nat.zero_le, Int.reduceLT, Int.reduceNeg, gIx1, enum0]) (by have := g.wl; simp; omega) (by
        rintro ⟨⟨a, b⟩, i⟩ hx acc
        have hi : i < ws.length := by
          have := List.mem_zipIdx_iff_getElem?.mp hx
          exact (List.getElem?_eq_some_iff.mp this).1
        have hi2 : i < gv.length := by rw [g.gl]; exact hi
        have e : gv[i]? = some gv[i] := List.getElem?_eq_getElem hi2
        refine ⟨_, rfl, ?_, fun _ => ?_⟩
        · simp only [mSeq, mPut, mOp, mVar, mC, mIfS, mTest, mTr, mNot, mAsg, mgName, mgTup, mgSeq, mgCons, mgNil, mCB, mCons, mNil, mRet, mRetN, mNext, mPar, mParO, mParOO, mLstN, mAnd, mOr, mAndV, mOrV, mNotV, mIf, mTup, mLst, mSl, mPart, mNoPart, mCall, mCallK, mCallF, mDrop, mDat, mOwn, mListN, mUn, mStar, seqD, flat_l, flat_k, refs1_l, refs1_k, refsB_nil, refsB_cons, mApp, mPop0, mChain, mIsi, mRange, mItems, mEnum, mAnyI, mYes, seqOf, frz, isiB, truD, perm, List.filterMap_cons, List.filterMap_nil, AP.S.on, vw, vws, dats, wipeS, retD, vwE, gS_eq, sS_eq, st0, List.reduceReplicate, List.getElem?_cons_zero, List.getElem?_cons_succ, List.set_cons_zero, List.set_cons_succ, List.map_cons, List.map_nil, List.length_cons, List.length_nil, List.cons_append, List.nil_append, List.append_nil, and_self, and_true, true_and, if_true, if_false, decide_true, decide_false, Bool.and_self, Bool.and_true, Bool.true_and, Bool.not_true, Bool.not_false, Nat.reduceAdd, Nat.reduceSub, Nat.reduceLeDiff, Nat.reduceEqDiff, Nat.zero_add, Nat.zero_le, Int.reduceLT, Int.reduceNeg, gIxT, List.getElem?_map, e, Option.map_some, gEqI]
          congr 2
          rw [Bool.eq_iff_iff, beq_iff_eq, decide_eq_true_eq, Option.some.injEq]
        · simp only [mSeq, mPut, mOp, mVar, mC, mIfS, mTest, mTr, mNot, mAsg, mgName, mgTup, mgSeq, mgCons, mgNil, mCB, mCons, mNil, mRet, mRetN, mNext, mPar, mParO, mParOO, mLstN, mAnd, mOr, mAndV, mOrV, mNotV, mIf, mTup, mLst, mSl, mPart, mNoPart, mCall, mCallK, mCallF, mDrop, mDat, mOwn, mListN, mUn, mStar, seqD, flat_l, flat_k, refs1_l, refs1_k, refsB_nil, refsB_cons, mApp, mPop0, mChain, mIsi, mRange, mItems, mEnum, mAnyI, mYes, seqOf, frz, isiB, truD, perm, List.filterMap_cons, List.filterMap_nil, AP.S.on, vw, vws, dats, wipeS, retD, vwE, gS_eq, sS_eq, st0, List.reduceReplicate, List.getElem?_cons_zero, List.getElem?_cons_succ, List.set_cons_zero, List.set_cons_succ, List.map_cons, List.map_nil, List.length_cons, List.length_nil, List.cons_append, List.nil_append, List.append_nil, and_self, and_true, true_and, if_true, if_false, decide_true, decide_false, Bool.and_self, Bool.and_true, Bool.true_and, Bool.not_true, Bool.not_false, Nat.reduceAdd, Nat.reduceSub, Nat.reduceLeDiff, Nat.reduceEqDiff, Nat.zero_add, Nat.zero_le, Int.reduceLT, Int.reduceNeg])
    rw [this]
    congr 3
    unfold ledOf
    rw [List.map_map]
    rfl
  have e1 : PD.lc_comers_to_1 ⟨[some (.d (net hs ws)), some (.d (T held)), some (.d (IT gv)), some (.d (.int p)), some (.d (.list ((ledOf ws gv p).map encL))), none, none, none, none, none, none], []⟩ = some (.k (held.map fun x => (.inr x, .int (-1))), []) := by
    unfold PD.lc_comers_to_1
    refine dcT held (fun _ => .int (-1)) rfl (up_nd g.hu) (by have := nd_le (up_nd g.hu) g.hsub; have := g.hl; omega) fun x hx acc => ⟨_, rfl, rfl, rfl, rfl, ?_⟩
    simp only [mSeq, mPut, mOp, mVar, mC, mIfS, mTest, mTr, mNot, mAsg, mgName, mgTup, mgSeq, mgCons, mgNil, mCB, mCons, mNil, mRet, mRetN, mNext, mPar, mParO, mParOO, mLstN, mAnd, mOr, mAndV, mOrV, mNotV, mIf, mTup, mLst, mSl, mPart, mNoPart, mCall, mCallK, mCallF, mDrop, mDat, mOwn, mListN, mUn, mStar, seqD, flat_l, flat_k, refs1_l, refs1_k, refsB_nil, refsB_cons, mApp, mPop0, mChain, mIsi, mRange, mItems, mEnum, mAnyI, mYes, seqOf, frz, isiB, truD, perm, List.filterMap_cons, List.filterMap_nil, AP.S.on, vw, vws, dats, wipeS, retD, vwE, gS_eq, sS_eq, st0, List.reduceReplicate, List.getElem?_cons_zero, List.getElem?_cons_succ, List.set_cons_zero, List.set_cons_succ, List.map_cons, List.map_nil, List.length_cons, List.length_nil, List.cons_append, List.nil_append, List.append_nil, and_self, and_true, true_and, if_true, if_false, decide_true, decide_false, Bool.and_self, Bool.and_true, Bool.true_and, Bool.not_true, Bool.not_false, Nat.reduceAdd, Nat.reduceSub, Nat.reduceLeDiff, Nat.reduceEqDiff, Nat.zero_add, Nat.zero_le, Int.reduceLT, Int.reduceNeg, gNegI]
  have e2 : (held.map fun x => ((Sum.inr x : Key), PyData.int (-1))) = fdD (held.map fun h => (h, -1)) := by
    unfold fdD
    rw [List.map_map]
    rfl
  have i0 := inv0 (led := ledOf ws gv p) (up_nd g.hu) g.hsub
  have m0 : mu hs (held.map (fun h => (h, -1)), held) < 200 := by
    unfold mu
    rw [keys_held]
    have := nd_le (up_nd g.hu) g.hsub
    have := g.hl
    simp only
    omega
  have lh : ∀ k a b, (k, a, b) ∈ ledOf ws gv p → b ∈ hs := fun k a b h => (g.wk _ (List.mem_of_getElem? (ledOf_mem.mp h).1)).2.1
  have wl : ∃ s', PD.wl_comers_to_5 (stC hs ws held gv p (held.map fun h => (h, -1)) held none none none none) = some (.nx s') ∧ RC hs ws held gv p (runW going (turn (ledOf ws gv p)) 200 (held.map (fun h => (h, -1)), held)) s' := by
    unfold PD.wl_comers_to_5
    refine whileT (RC hs ws held gv p) (fun a => Inv (ledOf ws gv p) held hs a ∧ mu hs a < 200) going (turn (ledOf ws gv p)) (mu hs) ?_ ?_ (fun a i g => ⟨⟨(inv_turn lh i.1 g).1, Nat.lt_trans (inv_turn lh i.1 g).2 i.2⟩, (inv_turn lh i.1 g).2⟩) 200 _ _ ⟨_, _, _, _, rfl⟩ ⟨i0, m0⟩ m0
    · rintro ⟨F, w⟩ s ⟨a7, a8, a9, a10, rfl⟩
      unfold stC going
      simp only [mSeq, mPut, mOp, mVar, mC, mIfS, mTest, mTr, mNot, mAsg, mgName, mgTup, mgSeq, mgCons, mgNil, mCB, mCons, mNil, mRet, mRetN, mNext, mPar, mParO, mParOO, mLstN, mAnd, mOr, mAndV, mOrV, mNotV, mIf, mTup, mLst, mSl, mPart, mNoPart, mCall, mCallK, mCallF, mDrop, mDat, mOwn, mListN, mUn, mStar, seqD, flat_l, flat_k, refs1_l, refs1_k, refsB_nil, refsB_cons, mApp, mPop0, mChain, mIsi, mRange, mItems, mEnum, mAnyI, mYes, seqOf, frz, isiB, truD, perm, List.filterMap_cons, List.filterMap_nil, AP.S.on, vw, vws, dats, wipeS, retD, vwE, gS_eq, sS_eq, st0, List.reduceReplicate, List.getElem?_cons_zero, List.getElem?_cons_succ, List.set_cons_zero, List.set_cons_succ, List.map_cons, List.map_nil, List.length_cons, List.length_nil, List.cons_append, List.nil_append, List.append_nil, and_self, and_true, true_and, if_true, if_false, decide_true, decide_false, Bool.and_self, Bool.and_true, Bool.true_and, Bool.not_true, Bool.not_false, Nat.reduceAdd, Nat.reduceSub, Nat.reduceLeDiff, Nat.reduceEqDiff, Nat.zero_add, Nat.zero_le, Int.reduceLT, Int.reduceNeg, List.isEmpty_map]
    · rintro ⟨F, w⟩ s ⟨a7, a8, a9, a10, rfl⟩ ⟨i, im⟩ gw
      have wn : w ≠ [] := by
        intro e
        simp [going, e] at gw
      obtain ⟨h, hh⟩ := len_at w wn
      have hw : h ∈ keys F := i.wt h (List.mem_of_getElem? hh)
      have fl := forF (im := mAnyI (mVar 4)) (g := mgTup 3 (mgCons (mgName 8) (mgCons (mgName 9) (mgCons (mgName 10) mgNil)))) (b := PD.fb_comers_to_2) (s := stC hs ws held gv p F w.dropLast (some (.d (.str h))) a8 a9 a10) encL (ledOf ws gv p)
        (fun st s => (Comes (ledOf ws gv p) held st.1 ∧ h ∈ keys st.1 ∧ (∀ x ∈ keys st.1, x ∈ hs) ∧ st.2.length ≤ w.length + (keys st.1).length) ∧ ∃ a8 a9 a10, s = stC hs ws held gv p st.1 st.2 (some (.d (.str h))) a8 a9 a10)
        (stp h) (F, w.dropLast) rfl ⟨⟨i.toComes, hw, i.sub, by simp only [List.length_dropLast]; omega⟩, _, _, _, rfl⟩ (by
          rintro ⟨k, a, b⟩ hx ⟨G, v⟩ s ⟨⟨j1, j2, j3, j4⟩, a8, a9, a10, rfl⟩
          obtain ⟨i1, i2, i3, i4, i5, i6, i7, i8⟩ := stp_fold (led := ledOf ws gv p) (held := held) (h := h) [(k, a, b)] (G, v) (fun x hx2 => by
            rw [List.mem_singleton.mp hx2]; exact hx) j1 j2
          simp only [List.foldl_cons, List.foldl_nil] at i1 i2 i3 i4 i5 i6 i7 i8
          have n1 := nd_le j1.nd j3
          have n2 := keys_len G
          have n3 := g.hl
          have n5 : w.length ≤ 200 := by
            have q : w.length ≤ mu hs (F, w) := by unfold mu; simp only; omega
            omega
          refine ⟨_, _, rfl, .inl (fb_ct (l := (k, a, b)) j1.nd (by simp only at *; omega) (by simp only at *; omega)), ⟨i1, i2 h j2, fun x hx2 => ?_, ?_⟩, _, _, _, rfl⟩
          · rcases i7 x hx2 with q | ⟨k', a', q⟩
            · exact j3 x q
            · simp only [List.mem_singleton, Prod.mk.injEq] at q
              obtain ⟨rfl, rfl, rfl⟩ := q
              exact lh _ _ _ hx
          · simp only at *
            omega)
      obtain ⟨s', e, _, b8, b9, b10, rfl⟩ := fl
      refine ⟨_, ?_, some (.d (.str h)), b8, b9, b10, rfl⟩
      have et : turn (ledOf ws gv p) (F, w) = (ledOf ws gv p).foldl (stp h) (F, w.dropLast) := by
        unfold turn
        simp only [hh]
      rw [et]
      unfold PD.wb_comers_to_4 PD.fl_comers_to_3
      unfold stC at e ⊢
      simp only [mSeq, mPut, mOp, mVar, mC, mIfS, mTest, mTr, mNot, mAsg, mgName, mgTup, mgSeq, mgCons, mgNil, mCB, mCons, mNil, mRet, mRetN, mNext, mPar, mParO, mParOO, mLstN, mAnd, mOr, mAndV, mOrV, mNotV, mIf, mTup, mLst, mSl, mPart, mNoPart, mCall, mCallK, mCallF, mDrop, mDat, mOwn, mListN, mUn, mStar, seqD, flat_l, flat_k, refs1_l, refs1_k, refsB_nil, refsB_cons, mApp, mPop0, mChain, mIsi, mRange, mItems, mEnum, mAnyI, mYes, seqOf, frz, isiB, truD, perm, List.filterMap_cons, List.filterMap_nil, AP.S.on, vw, vws, dats, wipeS, retD, vwE, gS_eq, sS_eq, st0, List.reduceReplicate, List.getElem?_cons_zero, List.getElem?_cons_succ, List.set_cons_zero, List.set_cons_succ, List.map_cons, List.map_nil, List.length_cons, List.length_nil, List.cons_append, List.nil_append, List.append_nil, and_self, and_true, true_and, if_true, if_false, decide_true, decide_false, Bool.and_self, Bool.and_true, Bool.true_and, Bool.not_true, Bool.not_false, Nat.reduceAdd, Nat.reduceSub, Nat.reduceLeDiff, Nat.reduceEqDiff, Nat.zero_add, Nat.zero_le, Int.reduceLT, Int.reduceNeg, List.length_map, List.getElem?_map, hh, Option.map_some, ← List.map_dropLast]
      exact e
  obtain ⟨s', e3, a7, a8, a9, a10, rfl⟩ := wl
  unfold runP PD.m_comers_to
  unfold stC at e3
  rw [← e2] at e3
  unfold IT T at *
  simp only [mSeq, mPut, mOp, mVar, mC, mIfS, mTest, mTr, mNot, mAsg, mgName, mgTup, mgSeq, mgCons, mgNil, mCB, mCons, mNil, mRet, mRetN, mNext, mPar, mParO, mParOO, mLstN, mAnd, mOr, mAndV, mOrV, mNotV, mIf, mTup, mLst, mSl, mPart, mNoPart, mCall, mCallK, mCallF, mDrop, mDat, mOwn, mListN, mUn, mStar, seqD, flat_l, flat_k, refs1_l, refs1_k, refsB_nil, refsB_cons, mApp, mPop0, mChain, mIsi, mRange, mItems, mEnum, mAnyI, mYes, seqOf, frz, isiB, truD, perm, List.filterMap_cons, List.filterMap_nil, AP.S.on, vw, vws, dats, wipeS, retD, vwE, gS_eq, sS_eq, st0, List.reduceReplicate, List.getElem?_cons_zero, List.getElem?_cons_succ, List.set_cons_zero, List.set_cons_succ, List.map_cons, List.map_nil, List.length_cons, List.length_nil, List.cons_append, List.nil_append, List.append_nil, and_self, and_true, true_and, if_true, if_false, decide_true, decide_false, Bool.and_self, Bool.and_true, Bool.true_and, Bool.not_true, Bool.not_false, Nat.reduceAdd, Nat.reduceSub, Nat.reduceLeDiff, Nat.reduceEqDiff, Nat.zero_add, Nat.zero_le, Int.reduceLT, Int.reduceNeg, e0, e1]
  rw [e3]
  simp only [mSeq, mPut, mOp, mVar, mC, mIfS, mTest, mTr, mNot, mAsg, mgName, mgTup, mgSeq, mgCons, mgNil, mCB, mCons, mNil, mRet, mRetN, mNext, mPar, mParO, mParOO, mLstN, mAnd, mOr, mAndV, mOrV, mNotV, mIf, mTup, mLst, mSl, mPart, mNoPart, mCall, mCallK, mCallF, mDrop, mDat, mOwn, mListN, mUn, mStar, seqD, flat_l, flat_k, refs1_l, refs1_k, refsB_nil, refsB_cons, mApp, mPop0, mChain, mIsi, mRange, mItems, mEnum, mAnyI, mYes, seqOf, frz, isiB, truD, perm, List.filterMap_cons, List.filterMap_nil, AP.S.on, vw, vws, dats, wipeS, retD, vwE, gS_eq, sS_eq, st0, List.reduceReplicate, List.getElem?_cons_zero, List.getElem?_cons_succ, List.set_cons_zero, List.set_cons_succ, List.map_cons, List.map_nil, List.length_cons, List.length_nil, List.cons_append, List.nil_append, List.append_nil, and_self, and_true, true_and, if_true, if_false, decide_true, decide_false, Bool.and_self, Bool.and_true, Bool.true_and, Bool.not_true, Bool.not_false, Nat.reduceAdd, Nat.reduceSub, Nat.reduceLeDiff, Nat.reduceEqDiff, Nat.zero_add, Nat.zero_le, Int.reduceLT, Int.reduceNeg]
  rfl
end
end
end
end PL

namespace PL
noncomputable section
open PySem PySem.Spec PyProof.Rows L2 RZ AP
section
variable [Tbls] [Gd]
abbrev HL (hd : List (List Str)) : D := .tuple (hd.map T)
structure OkH (hs : List Str) (ws : List Wr) (hd : List (List Str)) : Prop extends OkN hs ws where
  h6 : hs.length ≤ 60
  ph : hd.length ≤ 100
  hn : ∀ h ∈ hd, h ≠ []
  hu : ∀ h ∈ hd, h.Pairwise ltS
  hsub : ∀ h ∈ hd, ∀ a ∈ h, a ∈ hs
structure OkG0 (hs : List Str) (ws : List Wr) (hd : List (List Str)) (gv : List Int) : Prop extends OkH hs ws hd where
  gl : gv.length = ws.length
  gr : ∀ x ∈ gv, -1 ≤ x ∧ x < hd.length
structure OkG (hs : List Str) (ws : List Wr) (hd : List (List Str)) (gv : List Int) : Prop extends OkG0 hs ws hd gv where
  gs : ∀ (k p : Nat) (a b : Str) (held : List Str), gv[k]? = some (p : Int) → ws[k]? = some (a, b) → hd[p]? = some held → Reach ws held gv (p : Int) a
section
variable {hs : List Str} {ws : List Wr} {hd : List (List Str)} {gv : List Int}
theorem lets_holders_ev (g : OkH hs ws hd) : runP 6 PD.m_lets_holders [net hs ws, HL hd] = some (.int hd.length) := by
  have dc : PD.lc_lets_holders_0 ⟨[some (.d (net hs ws)), some (.d (HL hd)), none, none, none, none], []⟩ = some (.k (hs.map fun x => (.inr x, .bool true)), []) := by
    unfold PD.lc_lets_holders_0
    refine dcT hs (fun _ => .bool true) ?_ (up_nd g.up) (by have := g.hl; omega) fun x hx acc => ⟨_, rfl, rfl, rfl, rfl, rfl⟩
    unfold net T
    simp only [mSeq, mPut, mOp, mVar, mC, mIfS, mTest, mTr, mNot, mAsg, mgName, mgTup, mgSeq, mgCons, mgNil, mCB, mCons, mNil, mRet, mRetN, mNext, mPar, mParO, mParOO, mLstN, mAnd, mOr, mAndV, mOrV, mNotV, mIf, mTup, mLst, mSl, mPart, mNoPart, mCall, mCallK, mCallF, mDrop, mDat, mOwn, mListN, mUn, mStar, seqD, flat_l, flat_k, refs1_l, refs1_k, refsB_nil, refsB_cons, mApp, mPop0, mChain, mIsi, mRange, mItems, mEnum, mAnyI, mYes, seqOf, frz, isiB, truD, perm, List.filterMap_cons, List.filterMap_nil, AP.S.on, vw, vws, dats, wipeS, retD, vwE, gS_eq, sS_eq, st0, List.reduceReplicate, List.getElem?_cons_zero, List.getElem?_cons_succ, List.set_cons_zero, List.set_cons_succ, List.map_cons, List.map_nil, List.length_cons, List.length_nil, List.cons_append, List.nil_append, List.append_nil, and_self, and_true, true_and, if_true, if_false, decide_true, decide_false, Bool.and_self, Bool.and_true, Bool.true_and, Bool.not_true, Bool.not_false, Nat.reduceAdd, Nat.reduceSub, Nat.reduceLeDiff, Nat.reduceEqDiff, Nat.zero_add, Nat.zero_le, Int.reduceLT, Int.reduceNeg, gIx0]
  have fl : ∃ s', PD.fl_lets_holders_2 ⟨[some (.d (net hs ws)), some (.d (HL hd)), some (.d (knownD hs)), none, none, none], []⟩ = some (.nx s') ∧ ∃ a3 a4 a5, s' = (⟨[some (.d (net hs ws)), some (.d (HL hd)), some (.d (knownD hs)), a3, a4, a5], []⟩ : S) := by
    unfold PD.fl_lets_holders_2
    refine forF (fun p : List Str × Nat => PyData.tuple [.int (p.2 : Nat), T p.1]) hd.zipIdx (β := Unit) (fun _ s' => ∃ a3 a4 a5, s' = (⟨[some (.d (net hs ws)), some (.d (HL hd)), some (.d (knownD hs)), a3, a4, a5], []⟩ : S)) (fun _ _ => ()) () ?_ ⟨_, _, _, rfl⟩ ?_
    · simp only [mSeq, mPut, mOp, mVar, mC, mIfS, mTest, mTr, mNot, mAsg, mgName, mgTup, mgSeq, mgCons, mgNil, mCB, mCons, mNil, mRet, mRetN, mNext, mPar, mParO, mParOO, mLstN, mAnd, mOr, mAndV, mOrV, mNotV, mIf, mTup, mLst, mSl, mPart, mNoPart, mCall, mCallK, mCallF, mDrop, mDat, mOwn, mListN, mUn, mStar, seqD, flat_l, flat_k, refs1_l, refs1_k, refsB_nil, refsB_cons, mApp, mPop0, mChain, mIsi, mRange, mItems, mEnum, mAnyI, mYes, seqOf, frz, isiB, truD, perm, List.filterMap_cons, List.filterMap_nil, AP.S.on, vw, vws, dats, wipeS, retD, vwE, gS_eq, sS_eq, st0, List.reduceReplicate, List.getElem?_cons_zero, List.getElem?_cons_succ, List.set_cons_zero, List.set_cons_succ, List.map_cons, List.map_nil, List.length_cons, List.length_nil, List.cons_append, List.nil_append, List.append_nil, and_self, and_true, true_and, if_true, if_false, decide_true, decide_false, Bool.and_self, Bool.and_true, Bool.true_and, Bool.not_true, Bool.not_false, Nat.reduceAdd, Nat.reduceSub, Nat.reduceLeDiff, Nat.reduceEqDiff, Nat.zero_add, Nat.zero_le, Int.reduceLT, Int.reduceNeg, HL, enum0]
    · rintro ⟨p, i⟩ hx _ s ⟨a3, a4, a5, rfl⟩
      have hm := List.fst_mem_of_mem_zipIdx hx
      have hl : p.length ≤ 100000 := by
        have := nd_le (up_nd (g.hu p hm)) (g.hsub p hm)
        have := g.hl
        omega
      refine ⟨_, _, rfl, .inl ?_, some (.d (.int (i : Nat))), some (.d (T p)), a5, rfl⟩
      unfold PD.fb_lets_holders_1
      simp only [mSeq, mPut, mOp, mVar, mC, mIfS, mTest, mTr, mNot, mAsg, mgName, mgTup, mgSeq, mgCons, mgNil, mCB, mCons, mNil, mRet, mRetN, mNext, mPar, mParO, mParOO, mLstN, mAnd, mOr, mAndV, mOrV, mNotV, mIf, mTup, mLst, mSl, mPart, mNoPart, mCall, mCallK, mCallF, mDrop, mDat, mOwn, mListN, mUn, mStar, seqD, flat_l, flat_k, refs1_l, refs1_k, refsB_nil, refsB_cons, mApp, mPop0, mChain, mIsi, mRange, mItems, mEnum, mAnyI, mYes, seqOf, frz, isiB, truD, perm, List.filterMap_cons, List.filterMap_nil, AP.S.on, vw, vws, dats, wipeS, retD, vwE, gS_eq, sS_eq, st0, List.reduceReplicate, List.getElem?_cons_zero, List.getElem?_cons_succ, List.set_cons_zero, List.set_cons_succ, List.map_cons, List.map_nil, List.length_cons, List.length_nil, List.cons_append, List.nil_append, List.append_nil, and_self, and_true, true_and, if_true, if_false, decide_true, decide_false, Bool.and_self, Bool.and_true, Bool.true_and, Bool.not_true, Bool.not_false, Nat.reduceAdd, Nat.reduceSub, Nat.reduceLeDiff, Nat.reduceEqDiff, Nat.zero_add, Nat.zero_le, Int.reduceLT, Int.reduceNeg, among_ev (fun a ha => g.nm a (g.hsub p hm a ha)) (g.hu p hm) (g.hn p hm) hl (g.hsub p hm)]
  obtain ⟨s', e, a3, a4, a5, rfl⟩ := fl
  unfold runP PD.m_lets_holders
  simp only [mSeq, mPut, mOp, mVar, mC, mIfS, mTest, mTr, mNot, mAsg, mgName, mgTup, mgSeq, mgCons, mgNil, mCB, mCons, mNil, mRet, mRetN, mNext, mPar, mParO, mParOO, mLstN, mAnd, mOr, mAndV, mOrV, mNotV, mIf, mTup, mLst, mSl, mPart, mNoPart, mCall, mCallK, mCallF, mDrop, mDat, mOwn, mListN, mUn, mStar, seqD, flat_l, flat_k, refs1_l, refs1_k, refsB_nil, refsB_cons, mApp, mPop0, mChain, mIsi, mRange, mItems, mEnum, mAnyI, mYes, seqOf, frz, isiB, truD, perm, List.filterMap_cons, List.filterMap_nil, AP.S.on, vw, vws, dats, wipeS, retD, vwE, gS_eq, sS_eq, st0, List.reduceReplicate, List.getElem?_cons_zero, List.getElem?_cons_succ, List.set_cons_zero, List.set_cons_succ, List.map_cons, List.map_nil, List.length_cons, List.length_nil, List.cons_append, List.nil_append, List.append_nil, and_self, and_true, true_and, if_true, if_false, decide_true, decide_false, Bool.and_self, Bool.and_true, Bool.true_and, Bool.not_true, Bool.not_false, Nat.reduceAdd, Nat.reduceSub, Nat.reduceLeDiff, Nat.reduceEqDiff, Nat.zero_add, Nat.zero_le, Int.reduceLT, Int.reduceNeg, need_net_ev g.toOkN, dc, e, gLenT, List.length_map]
theorem need_holders_ev (g : OkH hs ws hd) : runP 2 PD.m_need_holders [net hs ws, HL hd] = some .none := by
  unfold runP PD.m_need_holders
  simp only [mSeq, mPut, mOp, mVar, mC, mIfS, mTest, mTr, mNot, mAsg, mgName, mgTup, mgSeq, mgCons, mgNil, mCB, mCons, mNil, mRet, mRetN, mNext, mPar, mParO, mParOO, mLstN, mAnd, mOr, mAndV, mOrV, mNotV, mIf, mTup, mLst, mSl, mPart, mNoPart, mCall, mCallK, mCallF, mDrop, mDat, mOwn, mListN, mUn, mStar, seqD, flat_l, flat_k, refs1_l, refs1_k, refsB_nil, refsB_cons, mApp, mPop0, mChain, mIsi, mRange, mItems, mEnum, mAnyI, mYes, seqOf, frz, isiB, truD, perm, List.filterMap_cons, List.filterMap_nil, AP.S.on, vw, vws, dats, wipeS, retD, vwE, gS_eq, sS_eq, st0, List.reduceReplicate, List.getElem?_cons_zero, List.getElem?_cons_succ, List.set_cons_zero, List.set_cons_succ, List.map_cons, List.map_nil, List.length_cons, List.length_nil, List.cons_append, List.nil_append, List.append_nil, and_self, and_true, true_and, if_true, if_false, decide_true, decide_false, Bool.and_self, Bool.and_true, Bool.true_and, Bool.not_true, Bool.not_false, Nat.reduceAdd, Nat.reduceSub, Nat.reduceLeDiff, Nat.reduceEqDiff, Nat.zero_add, Nat.zero_le, Int.reduceLT, Int.reduceNeg, lets_holders_ev g]
theorem OkG0.at3 (g : OkG0 hs ws hd gv) {h : List Str} (hm : h ∈ hd) : Ok3 hs ws h gv := ⟨g.toOkN, g.hn h hm, g.hu h hm, g.hsub h hm, g.gl⟩
def CF (ws : List Wr) (hd : List (List Str)) (gv : List Int) : List Fd := hd.zipIdx.map fun q => comersF ws q.1 gv (q.2 : Nat)
abbrev encF (F : Fd) : D := .dict (kvD (fdD F))
theorem comers_ev (g : OkG0 hs ws hd gv) : runP 5 PD.m_comers [net hs ws, HL hd, IT gv] = some (.list ((CF ws hd gv).map encF)) := by
  have e : PD.lc_comers_0 ⟨[some (.d (net hs ws)), some (.d (HL hd)), some (.d (IT gv)), none, none], []⟩ = some (.l (hd.zipIdx.map fun q => encF (comersF ws q.1 gv (q.2 : Nat))), []) := by
    unfold PD.lc_comers_0
    refine lcA (fun p : List Str × Nat => PyData.tuple [.int (p.2 : Nat), T p.1]) hd.zipIdx (fun q => encF (comersF ws q.1 gv (q.2 : Nat))) (by simp only [mSeq, mPut, mOp, mVar, mC, mIfS, mTest, mTr, mNot, mAsg, mgName, mgTup, mgSeq, mgCons, mgNil, mCB, mCons, mNil, mRet, mRetN, mNext, mPar, mParO, mParOO, mLstN, mAnd, mOr, mAndV, mOrV, mNotV, mIf, mTup, mLst, mSl, mPart, mNoPart, mCall, mCallK, mCallF, mDrop, mDat, mOwn, mListN, mUn, mStar, seqD, flat_l, flat_k, refs1_l, refs1_k, refsB_nil, refsB_cons, mApp, mPop0, mChain, mIsi, mRange, mItems, mEnum, mAnyI, mYes, seqOf, frz, isiB, truD, perm, List.filterMap_cons, List.filterMap_nil, AP.S.on, vw, vws, dats, wipeS, retD, vwE, gS_eq, sS_eq, st0, List.reduceReplicate, List.getElem?_cons_zero, List.getElem?_cons_succ, List.set_cons_zero, List.set_cons_succ, List.map_cons, List.map_nil, List.length_cons, List.length_nil, List.cons_append, List.nil_append, List.append_nil, and_self, and_true, true_and, if_true, if_false, decide_true, decide_false, Bool.and_self, Bool.and_true, Bool.true_and, Bool.not_true, Bool.not_false, Nat.reduceAdd, Nat.reduceSub, Nat.reduceLeDiff, Nat.reduceEqDiff, Nat.zero_add, Nat.zero_le, Int.reduceLT, Int.reduceNeg, HL, enum0]) (by have := g.ph; simp; omega) ?_
    rintro ⟨h, i⟩ hx acc
    have hm := List.fst_mem_of_mem_zipIdx hx
    refine ⟨_, rfl, rfl, ?_⟩
    simp only [mSeq, mPut, mOp, mVar, mC, mIfS, mTest, mTr, mNot, mAsg, mgName, mgTup, mgSeq, mgCons, mgNil, mCB, mCons, mNil, mRet, mRetN, mNext, mPar, mParO, mParOO, mLstN, mAnd, mOr, mAndV, mOrV, mNotV, mIf, mTup, mLst, mSl, mPart, mNoPart, mCall, mCallK, mCallF, mDrop, mDat, mOwn, mListN, mUn, mStar, seqD, flat_l, flat_k, refs1_l, refs1_k, refsB_nil, refsB_cons, mApp, mPop0, mChain, mIsi, mRange, mItems, mEnum, mAnyI, mYes, seqOf, frz, isiB, truD, perm, List.filterMap_cons, List.filterMap_nil, AP.S.on, vw, vws, dats, wipeS, retD, vwE, gS_eq, sS_eq, st0, List.reduceReplicate, List.getElem?_cons_zero, List.getElem?_cons_succ, List.set_cons_zero, List.set_cons_succ, List.map_cons, List.map_nil, List.length_cons, List.length_nil, List.cons_append, List.nil_append, List.append_nil, and_self, and_true, true_and, if_true, if_false, decide_true, decide_false, Bool.and_self, Bool.and_true, Bool.true_and, Bool.not_true, Bool.not_false, Nat.reduceAdd, Nat.reduceSub, Nat.reduceLeDiff, Nat.reduceEqDiff, Nat.zero_add, Nat.zero_le, Int.reduceLT, Int.reduceNeg, ct_ev (g.at3 hm)]
  unfold runP PD.m_comers
  simp only [mSeq, mPut, mOp, mVar, mC, mIfS, mTest, mTr, mNot, mAsg, mgName, mgTup, mgSeq, mgCons, mgNil, mCB, mCons, mNil, mRet, mRetN, mNext, mPar, mParO, mParOO, mLstN, mAnd, mOr, mAndV, mOrV, mNotV, mIf, mTup, mLst, mSl, mPart, mNoPart, mCall, mCallK, mCallF, mDrop, mDat, mOwn, mListN, mUn, mStar, seqD, flat_l, flat_k, refs1_l, refs1_k, refsB_nil, refsB_cons, mApp, mPop0, mChain, mIsi, mRange, mItems, mEnum, mAnyI, mYes, seqOf, frz, isiB, truD, perm, List.filterMap_cons, List.filterMap_nil, AP.S.on, vw, vws, dats, wipeS, retD, vwE, gS_eq, sS_eq, st0, List.reduceReplicate, List.getElem?_cons_zero, List.getElem?_cons_succ, List.set_cons_zero, List.set_cons_succ, List.map_cons, List.map_nil, List.length_cons, List.length_nil, List.cons_append, List.nil_append, List.append_nil, and_self, and_true, true_and, if_true, if_false, decide_true, decide_false, Bool.and_self, Bool.and_true, Bool.true_and, Bool.not_true, Bool.not_false, Nat.reduceAdd, Nat.reduceSub, Nat.reduceLeDiff, Nat.reduceEqDiff, Nat.zero_add, Nat.zero_le, Int.reduceLT, Int.reduceNeg, e]
  unfold CF
  rw [List.map_map]
  rfl
theorem CF_len : (CF ws hd gv).length = hd.length := by unfold CF; simp
theorem CF_get {p : Nat} {h : List Str} (e : hd[p]? = some h) : (CF ws hd gv)[p]? = some (comersF ws h gv (p : Nat)) := by
  unfold CF
  rw [List.getElem?_map, List.getElem?_zipIdx, e]
  simp
theorem ints_int (xs : List Int) : intsD (xs.map .int) = true := by
  induction xs with
  | nil => rfl
  | cons x r ih => simp only [List.map_cons, intsD, ih]
theorem okTup_ints (xs : List Int) : okTup (.tuple (xs.map .int)) = true := by
  simp only [okTup, weakD, ints_int, Bool.not_true, Bool.and_false, Bool.false_and, Bool.not_false]
theorem shp_int (i : Int) : shp (.int i) = true := rfl
theorem shp_IT (xs : List Int) : shp (IT xs) = true := shp_of (by simp [PyData.canLay0, lay_ints]) (by simp [PyData.depth, deep_ints])
theorem cnt_ints (xs : List Int) (i : Int) : cntD (xs.map .int) (.int i) = xs.countP (· == i) := by
  unfold cntD
  rw [List.countP_map]
  congr 1
theorem lets_giving_ev (g : OkG hs ws hd gv) : runP 7 PD.m_lets_giving [net hs ws, HL hd, IT gv] = some (.int ((gv.length : Int) - (gv.countP (· == -1) : Nat))) := by
  have f0 : ∃ s', PD.fl_lets_giving_1 ⟨[some (.d (net hs ws)), some (.d (HL hd)), some (.d (IT gv)), some (.d (W ws)), none, none, none], []⟩ = some (.nx s') ∧ ∃ a5 a6, s' = (⟨[some (.d (net hs ws)), some (.d (HL hd)), some (.d (IT gv)), some (.d (W ws)), none, a5, a6], []⟩ : S) := by
    unfold PD.fl_lets_giving_1
    refine forF (fun p : Int × Nat => PyData.tuple [.int (p.2 : Nat), .int p.1]) gv.zipIdx (β := Unit) (fun _ s' => ∃ a5 a6, s' = (⟨[some (.d (net hs ws)), some (.d (HL hd)), some (.d (IT gv)), some (.d (W ws)), none, a5, a6], []⟩ : S)) (fun _ _ => ()) () ?_ ⟨_, _, rfl⟩ ?_
    · simp only [mSeq, mPut, mOp, mVar, mC, mIfS, mTest, mTr, mNot, mAsg, mgName, mgTup, mgSeq, mgCons, mgNil, mCB, mCons, mNil, mRet, mRetN, mNext, mPar, mParO, mParOO, mLstN, mAnd, mOr, mAndV, mOrV, mNotV, mIf, mTup, mLst, mSl, mPart, mNoPart, mCall, mCallK, mCallF, mDrop, mDat, mOwn, mListN, mUn, mStar, seqD, flat_l, flat_k, refs1_l, refs1_k, refsB_nil, refsB_cons, mApp, mPop0, mChain, mIsi, mRange, mItems, mEnum, mAnyI, mYes, seqOf, frz, isiB, truD, perm, List.filterMap_cons, List.filterMap_nil, AP.S.on, vw, vws, dats, wipeS, retD, vwE, gS_eq, sS_eq, st0, List.reduceReplicate, List.getElem?_cons_zero, List.getElem?_cons_succ, List.set_cons_zero, List.set_cons_succ, List.map_cons, List.map_nil, List.length_cons, List.length_nil, List.cons_append, List.nil_append, List.append_nil, and_self, and_true, true_and, if_true, if_false, decide_true, decide_false, Bool.and_self, Bool.and_true, Bool.true_and, Bool.not_true, Bool.not_false, Nat.reduceAdd, Nat.reduceSub, Nat.reduceLeDiff, Nat.reduceEqDiff, Nat.zero_add, Nat.zero_le, Int.reduceLT, Int.reduceNeg, IT, enum0]
    · rintro ⟨x, i⟩ hx _ s ⟨a5, a6, rfl⟩
      obtain ⟨h1, h2⟩ := g.gr x (List.fst_mem_of_mem_zipIdx hx)
      refine ⟨_, _, rfl, .inl ?_, some (.d (.int (i : Nat))), some (.d (.int x)), rfl⟩
      unfold PD.fb_lets_giving_0
      simp only [mSeq, mPut, mOp, mVar, mC, mIfS, mTest, mTr, mNot, mAsg, mgName, mgTup, mgSeq, mgCons, mgNil, mCB, mCons, mNil, mRet, mRetN, mNext, mPar, mParO, mParOO, mLstN, mAnd, mOr, mAndV, mOrV, mNotV, mIf, mTup, mLst, mSl, mPart, mNoPart, mCall, mCallK, mCallF, mDrop, mDat, mOwn, mListN, mUn, mStar, seqD, flat_l, flat_k, refs1_l, refs1_k, refsB_nil, refsB_cons, mApp, mPop0, mChain, mIsi, mRange, mItems, mEnum, mAnyI, mYes, seqOf, frz, isiB, truD, perm, List.filterMap_cons, List.filterMap_nil, AP.S.on, vw, vws, dats, wipeS, retD, vwE, gS_eq, sS_eq, st0, List.reduceReplicate, List.getElem?_cons_zero, List.getElem?_cons_succ, List.set_cons_zero, List.set_cons_succ, List.map_cons, List.map_nil, List.length_cons, List.length_nil, List.cons_append, List.nil_append, List.append_nil, and_self, and_true, true_and, if_true, if_false, decide_true, decide_false, Bool.and_self, Bool.and_true, Bool.true_and, Bool.not_true, Bool.not_false, Nat.reduceAdd, Nat.reduceSub, Nat.reduceLeDiff, Nat.reduceEqDiff, Nat.zero_add, Nat.zero_le, Int.reduceLT, Int.reduceNeg, show runP 1 PD.m_is_integer [.int x] = some (.bool true) from rfl, gNegI, gLenT, List.length_map, gLeI, gLtI, decide_eq_true h1, decide_eq_true h2]
  obtain ⟨s0, e0, a5, a6, rfl⟩ := f0
  have f1 : ∃ s', PD.fl_lets_giving_3 ⟨[some (.d (net hs ws)), some (.d (HL hd)), some (.d (IT gv)), some (.d (W ws)), some (.d (.list ((CF ws hd gv).map encF))), a5, a6], []⟩ = some (.nx s') ∧ ∃ a5 a6, s' = (⟨[some (.d (net hs ws)), some (.d (HL hd)), some (.d (IT gv)), some (.d (W ws)), some (.d (.list ((CF ws hd gv).map encF))), a5, a6], []⟩ : S) := by
    unfold PD.fl_lets_giving_3
    refine forF (fun p : Int × Nat => PyData.tuple [.int (p.2 : Nat), .int p.1]) gv.zipIdx (β := Unit) (fun _ s' => ∃ a5 a6, s' = (⟨[some (.d (net hs ws)), some (.d (HL hd)), some (.d (IT gv)), some (.d (W ws)), some (.d (.list ((CF ws hd gv).map encF))), a5, a6], []⟩ : S)) (fun _ _ => ()) () ?_ ⟨_, _, rfl⟩ ?_
    · simp only [mSeq, mPut, mOp, mVar, mC, mIfS, mTest, mTr, mNot, mAsg, mgName, mgTup, mgSeq, mgCons, mgNil, mCB, mCons, mNil, mRet, mRetN, mNext, mPar, mParO, mParOO, mLstN, mAnd, mOr, mAndV, mOrV, mNotV, mIf, mTup, mLst, mSl, mPart, mNoPart, mCall, mCallK, mCallF, mDrop, mDat, mOwn, mListN, mUn, mStar, seqD, flat_l, flat_k, refs1_l, refs1_k, refsB_nil, refsB_cons, mApp, mPop0, mChain, mIsi, mRange, mItems, mEnum, mAnyI, mYes, seqOf, frz, isiB, truD, perm, List.filterMap_cons, List.filterMap_nil, AP.S.on, vw, vws, dats, wipeS, retD, vwE, gS_eq, sS_eq, st0, List.reduceReplicate, List.getElem?_cons_zero, List.getElem?_cons_succ, List.set_cons_zero, List.set_cons_succ, List.map_cons, List.map_nil, List.length_cons, List.length_nil, List.cons_append, List.nil_append, List.append_nil, and_self, and_true, true_and, if_true, if_false, decide_true, decide_false, Bool.and_self, Bool.and_true, Bool.true_and, Bool.not_true, Bool.not_false, Nat.reduceAdd, Nat.reduceSub, Nat.reduceLeDiff, Nat.reduceEqDiff, Nat.zero_add, Nat.zero_le, Int.reduceLT, Int.reduceNeg, IT, enum0]
    · rintro ⟨x, i⟩ hx _ s ⟨a5, a6, rfl⟩
      obtain ⟨h1, h2⟩ := g.gr x (List.fst_mem_of_mem_zipIdx hx)
      refine ⟨_, _, rfl, .inl ?_, some (.d (.int (i : Nat))), some (.d (.int x)), rfl⟩
      unfold PD.fb_lets_giving_2
      by_cases hx1 : x = -1
      · subst hx1
        simp only [mSeq, mPut, mOp, mVar, mC, mIfS, mTest, mTr, mNot, mAsg, mgName, mgTup, mgSeq, mgCons, mgNil, mCB, mCons, mNil, mRet, mRetN, mNext, mPar, mParO, mParOO, mLstN, mAnd, mOr, mAndV, mOrV, mNotV, mIf, mTup, mLst, mSl, mPart, mNoPart, mCall, mCallK, mCallF, mDrop, mDat, mOwn, mListN, mUn, mStar, seqD, flat_l, flat_k, refs1_l, refs1_k, refsB_nil, refsB_cons, mApp, mPop0, mChain, mIsi, mRange, mItems, mEnum, mAnyI, mYes, seqOf, frz, isiB, truD, perm, List.filterMap_cons, List.filterMap_nil, AP.S.on, vw, vws, dats, wipeS, retD, vwE, gS_eq, sS_eq, st0, List.reduceReplicate, List.getElem?_cons_zero, List.getElem?_cons_succ, List.set_cons_zero, List.set_cons_succ, List.map_cons, List.map_nil, List.length_cons, List.length_nil, List.cons_append, List.nil_append, List.append_nil, and_self, and_true, true_and, if_true, if_false, decide_true, decide_false, Bool.and_self, Bool.and_true, Bool.true_and, Bool.not_true, Bool.not_false, Nat.reduceAdd, Nat.reduceSub, Nat.reduceLeDiff, Nat.reduceEqDiff, Nat.zero_add, Nat.zero_le, Int.reduceLT, Int.reduceNeg, gNegI, gNeI, BEq.rfl]
      · have e1 : (x == -1) = false := by simpa using hx1
        obtain ⟨p, rfl⟩ := Int.eq_ofNat_of_zero_le (show 0 ≤ x by omega)
        have hp : p < hd.length := by omega
        have ex := List.mem_zipIdx_iff_getElem?.mp hx
        simp only at ex
        have hi : i < ws.length := by
          rw [← g.gl]
          exact (List.getElem?_eq_some_iff.mp ex).1
        have ew : ws[i]? = some (ws[i].1, ws[i].2) := List.getElem?_eq_getElem hi
        have eh : hd[p]? = some hd[p] := List.getElem?_eq_getElem hp
        have hm := List.getElem_mem hp
        have re := (comers_iff (gv := gv) (p := (p : Int)) g.wk (up_nd (g.hu _ hm)) (g.hsub _ hm) g.hl _).mpr (g.gs i p _ _ _ ex ew eh)
        unfold W
        simp only [mSeq, mPut, mOp, mVar, mC, mIfS, mTest, mTr, mNot, mAsg, mgName, mgTup, mgSeq, mgCons, mgNil, mCB, mCons, mNil, mRet, mRetN, mNext, mPar, mParO, mParOO, mLstN, mAnd, mOr, mAndV, mOrV, mNotV, mIf, mTup, mLst, mSl, mPart, mNoPart, mCall, mCallK, mCallF, mDrop, mDat, mOwn, mListN, mUn, mStar, seqD, flat_l, flat_k, refs1_l, refs1_k, refsB_nil, refsB_cons, mApp, mPop0, mChain, mIsi, mRange, mItems, mEnum, mAnyI, mYes, seqOf, frz, isiB, truD, perm, List.filterMap_cons, List.filterMap_nil, AP.S.on, vw, vws, dats, wipeS, retD, vwE, gS_eq, sS_eq, st0, List.reduceReplicate, List.getElem?_cons_zero, List.getElem?_cons_succ, List.set_cons_zero, List.set_cons_succ, List.map_cons, List.map_nil, List.length_cons, List.length_nil, List.cons_append, List.nil_append, List.append_nil, and_self, and_true, true_and, if_true, if_false, decide_true, decide_false, Bool.and_self, Bool.and_true, Bool.true_and, Bool.not_true, Bool.not_false, Nat.reduceAdd, Nat.reduceSub, Nat.reduceLeDiff, Nat.reduceEqDiff, Nat.zero_add, Nat.zero_le, Int.reduceLT, Int.reduceNeg, gNegI, gNeI, e1, gIxT, List.getElem?_map, ew, Option.map_some, pr, gIx0, gIxL, CF_get eh, notInF, re]
  obtain ⟨s1, e1, b5, b6, rfl⟩ := f1
  unfold runP PD.m_lets_giving
  have en : gIx (net hs ws) (.int 1) = some (W ws) := gIx1 _ _ _
  have lw : (gv.length == ws.length) = true := by simpa using g.gl
  simp only [mSeq, mPut, mOp, mVar, mC, mIfS, mTest, mTr, mNot, mAsg, mgName, mgTup, mgSeq, mgCons, mgNil, mCB, mCons, mNil, mRet, mRetN, mNext, mPar, mParO, mParOO, mLstN, mAnd, mOr, mAndV, mOrV, mNotV, mIf, mTup, mLst, mSl, mPart, mNoPart, mCall, mCallK, mCallF, mDrop, mDat, mOwn, mListN, mUn, mStar, seqD, flat_l, flat_k, refs1_l, refs1_k, refsB_nil, refsB_cons, mApp, mPop0, mChain, mIsi, mRange, mItems, mEnum, mAnyI, mYes, seqOf, frz, isiB, truD, perm, List.filterMap_cons, List.filterMap_nil, AP.S.on, vw, vws, dats, wipeS, retD, vwE, gS_eq, sS_eq, st0, List.reduceReplicate, List.getElem?_cons_zero, List.getElem?_cons_succ, List.set_cons_zero, List.set_cons_succ, List.map_cons, List.map_nil, List.length_cons, List.length_nil, List.cons_append, List.nil_append, List.append_nil, and_self, and_true, true_and, if_true, if_false, decide_true, decide_false, Bool.and_self, Bool.and_true, Bool.true_and, Bool.not_true, Bool.not_false, Nat.reduceAdd, Nat.reduceSub, Nat.reduceLeDiff, Nat.reduceEqDiff, Nat.zero_add, Nat.zero_le, Int.reduceLT, Int.reduceNeg, need_holders_ev g.toOkH, en, gLenT, List.length_map, gNeI, g.gl, BEq.rfl, e0, comers_ev g.toOkG0, e1]
  simp only [mSeqM, mBM]
  simp only [mSeq, mPut, mOp, mVar, mC, mIfS, mTest, mTr, mNot, mAsg, mgName, mgTup, mgSeq, mgCons, mgNil, mCB, mCons, mNil, mRet, mRetN, mNext, mPar, mParO, mParOO, mLstN, mAnd, mOr, mAndV, mOrV, mNotV, mIf, mTup, mLst, mSl, mPart, mNoPart, mCall, mCallK, mCallF, mDrop, mDat, mOwn, mListN, mUn, mStar, seqD, flat_l, flat_k, refs1_l, refs1_k, refsB_nil, refsB_cons, mApp, mPop0, mChain, mIsi, mRange, mItems, mEnum, mAnyI, mYes, seqOf, frz, isiB, truD, perm, List.filterMap_cons, List.filterMap_nil, AP.S.on, vw, vws, dats, wipeS, retD, vwE, gS_eq, sS_eq, st0, List.reduceReplicate, List.getElem?_cons_zero, List.getElem?_cons_succ, List.set_cons_zero, List.set_cons_succ, List.map_cons, List.map_nil, List.length_cons, List.length_nil, List.cons_append, List.nil_append, List.append_nil, and_self, and_true, true_and, if_true, if_false, decide_true, decide_false, Bool.and_self, Bool.and_true, Bool.true_and, Bool.not_true, Bool.not_false, Nat.reduceAdd, Nat.reduceSub, Nat.reduceLeDiff, Nat.reduceEqDiff, Nat.zero_add, Nat.zero_le, Int.reduceLT, Int.reduceNeg, okTup_ints, gCntT, shp_int, shp_IT, gNegI, gSubI, cnt_ints]
theorem need_giving_ev (g : OkG hs ws hd gv) : runP 3 PD.m_need_giving [net hs ws, HL hd, IT gv] = some .none := by
  unfold runP PD.m_need_giving
  simp only [mSeq, mPut, mOp, mVar, mC, mIfS, mTest, mTr, mNot, mAsg, mgName, mgTup, mgSeq, mgCons, mgNil, mCB, mCons, mNil, mRet, mRetN, mNext, mPar, mParO, mParOO, mLstN, mAnd, mOr, mAndV, mOrV, mNotV, mIf, mTup, mLst, mSl, mPart, mNoPart, mCall, mCallK, mCallF, mDrop, mDat, mOwn, mListN, mUn, mStar, seqD, flat_l, flat_k, refs1_l, refs1_k, refsB_nil, refsB_cons, mApp, mPop0, mChain, mIsi, mRange, mItems, mEnum, mAnyI, mYes, seqOf, frz, isiB, truD, perm, List.filterMap_cons, List.filterMap_nil, AP.S.on, vw, vws, dats, wipeS, retD, vwE, gS_eq, sS_eq, st0, List.reduceReplicate, List.getElem?_cons_zero, List.getElem?_cons_succ, List.set_cons_zero, List.set_cons_succ, List.map_cons, List.map_nil, List.length_cons, List.length_nil, List.cons_append, List.nil_append, List.append_nil, and_self, and_true, true_and, if_true, if_false, decide_true, decide_false, Bool.and_self, Bool.and_true, Bool.true_and, Bool.not_true, Bool.not_false, Nat.reduceAdd, Nat.reduceSub, Nat.reduceLeDiff, Nat.reduceEqDiff, Nat.zero_add, Nat.zero_le, Int.reduceLT, Int.reduceNeg, lets_giving_ev g]
end
end
end
end PL

namespace PL
noncomputable section
open PySem PySem.Spec PyProof.Rows L2 RZ AP
section
variable [Tbls] [Gd]
variable {hs : List Str} {ws : List Wr} {hd : List (List Str)} {gv : List Int}
def hasF (ws : List Wr) (hd : List (List Str)) (gv : List Int) : List (List Str) := (CF ws hd gv).map fun F => sortS (keys F)
theorem sortF {F : Fd} (h : (keys F).length < 64) : gSortedX [encF F] = some (.list ((sortS (keys F)).map .str)) := by
  have e : (kvD (fdD F)).map (·.1) = (keys F).map .str := by
    unfold kvD fdD keys
    rw [List.map_map, List.map_map, List.map_map]
    rfl
  simp only [gSortedX, gSortedW, gSortedU, e, strsOf_map, h, if_true, oel]
theorem CF_ok (g : OkG0 hs ws hd gv) {F : Fd} (hm : F ∈ CF ws hd gv) : (keys F).Nodup ∧ (∀ x ∈ keys F, x ∈ hs) ∧ (keys F).length < 64 := by
  obtain ⟨q, hq, rfl⟩ := List.mem_map.mp hm
  have hm := List.fst_mem_of_mem_zipIdx hq
  obtain ⟨c, s, _⟩ := comersF_ok (gv := gv) (p := (q.2 : Nat)) g.wk (up_nd (g.hu _ hm)) (g.hsub _ hm) g.hl
  have := nd_le c.nd s
  have := g.h6
  exact ⟨c.nd, s, by omega⟩
theorem having_ev (g : OkG hs ws hd gv) : runP 4 PD.m_having [net hs ws, HL hd, IT gv] = some (HL (hasF ws hd gv)) := by
  have e : PD.lc_having_0 ⟨[some (.d (net hs ws)), some (.d (HL hd)), some (.d (IT gv)), none], []⟩ = some (.l ((CF ws hd gv).map fun F => T (sortS (keys F))), []) := by
    unfold PD.lc_having_0
    refine lcA encF (CF ws hd gv) (fun F => T (sortS (keys F))) (by simp only [mSeq, mPut, mOp, mVar, mC, mIfS, mTest, mTr, mNot, mAsg, mgName, mgTup, mgSeq, mgCons, mgNil, mCB, mCons, mNil, mRet, mRetN, mNext, mPar, mParO, mParOO, mLstN, mAnd, mOr, mAndV, mOrV, mNotV, mIf, mTup, mLst, mSl, mPart, mNoPart, mCall, mCallK, mCallF, mDrop, mDat, mOwn, mListN, mUn, mStar, seqD, flat_l, flat_k, refs1_l, refs1_k, refsB_nil, refsB_cons, mApp, mPop0, mChain, mIsi, mRange, mItems, mEnum, mAnyI, mYes, seqOf, frz, isiB, truD, perm, List.filterMap_cons, List.filterMap_nil, AP.S.on, vw, vws, dats, wipeS, retD, vwE, gS_eq, sS_eq, st0, List.reduceReplicate, List.getElem?_cons_zero, List.getElem?_cons_succ, List.set_cons_zero, List.set_cons_succ, List.map_cons, List.map_nil, List.length_cons, List.length_nil, List.cons_append, List.nil_append, List.append_nil, and_self, and_true, true_and, if_true, if_false, decide_true, decide_false, Bool.and_self, Bool.and_true, Bool.true_and, Bool.not_true, Bool.not_false, Nat.reduceAdd, Nat.reduceSub, Nat.reduceLeDiff, Nat.reduceEqDiff, Nat.zero_add, Nat.zero_le, Int.reduceLT, Int.reduceNeg, comers_ev g.toOkG0]) (by rw [CF_len]; have := g.ph; omega) fun F hF acc => ⟨_, rfl, rfl, ?_⟩
    simp only [mSeq, mPut, mOp, mVar, mC, mIfS, mTest, mTr, mNot, mAsg, mgName, mgTup, mgSeq, mgCons, mgNil, mCB, mCons, mNil, mRet, mRetN, mNext, mPar, mParO, mParOO, mLstN, mAnd, mOr, mAndV, mOrV, mNotV, mIf, mTup, mLst, mSl, mPart, mNoPart, mCall, mCallK, mCallF, mDrop, mDat, mOwn, mListN, mUn, mStar, seqD, flat_l, flat_k, refs1_l, refs1_k, refsB_nil, refsB_cons, mApp, mPop0, mChain, mIsi, mRange, mItems, mEnum, mAnyI, mYes, seqOf, frz, isiB, truD, perm, List.filterMap_cons, List.filterMap_nil, AP.S.on, vw, vws, dats, wipeS, retD, vwE, gS_eq, sS_eq, st0, List.reduceReplicate, List.getElem?_cons_zero, List.getElem?_cons_succ, List.set_cons_zero, List.set_cons_succ, List.map_cons, List.map_nil, List.length_cons, List.length_nil, List.cons_append, List.nil_append, List.append_nil, and_self, and_true, true_and, if_true, if_false, decide_true, decide_false, Bool.and_self, Bool.and_true, Bool.true_and, Bool.not_true, Bool.not_false, Nat.reduceAdd, Nat.reduceSub, Nat.reduceLeDiff, Nat.reduceEqDiff, Nat.zero_add, Nat.zero_le, Int.reduceLT, Int.reduceNeg, sortF (CF_ok g.toOkG0 hF).2.2, gTupL]
    rfl
  unfold runP PD.m_having
  simp only [mSeq, mPut, mOp, mVar, mC, mIfS, mTest, mTr, mNot, mAsg, mgName, mgTup, mgSeq, mgCons, mgNil, mCB, mCons, mNil, mRet, mRetN, mNext, mPar, mParO, mParOO, mLstN, mAnd, mOr, mAndV, mOrV, mNotV, mIf, mTup, mLst, mSl, mPart, mNoPart, mCall, mCallK, mCallF, mDrop, mDat, mOwn, mListN, mUn, mStar, seqD, flat_l, flat_k, refs1_l, refs1_k, refsB_nil, refsB_cons, mApp, mPop0, mChain, mIsi, mRange, mItems, mEnum, mAnyI, mYes, seqOf, frz, isiB, truD, perm, List.filterMap_cons, List.filterMap_nil, AP.S.on, vw, vws, dats, wipeS, retD, vwE, gS_eq, sS_eq, st0, List.reduceReplicate, List.getElem?_cons_zero, List.getElem?_cons_succ, List.set_cons_zero, List.set_cons_succ, List.map_cons, List.map_nil, List.length_cons, List.length_nil, List.cons_append, List.nil_append, List.append_nil, and_self, and_true, true_and, if_true, if_false, decide_true, decide_false, Bool.and_self, Bool.and_true, Bool.true_and, Bool.not_true, Bool.not_false, Nat.reduceAdd, Nat.reduceSub, Nat.reduceLeDiff, Nat.reduceEqDiff, Nat.zero_add, Nat.zero_le, Int.reduceLT, Int.reduceNeg, need_giving_ev g, e, gTupL]
  unfold hasF HL
  rw [List.map_map]
  rfl
theorem dats_map : ∀ xs : List D, dats (xs.map .d) = some xs
  | [] => rfl
  | x :: xs => by simp only [List.map_cons, dats, dats_map xs]
theorem dats_app : ∀ (xs : List D) (ys : List SV) (zs : List D), dats ys = some zs → dats (xs.map .d ++ ys) = some (xs ++ zs)
  | [], ys, zs, h => h
  | x :: xs, ys, zs, h => by simp only [List.map_cons, List.cons_append, dats, dats_app xs ys zs h]
theorem set_cut (gv : List Int) (k : Nat) (v : Int) (h : k < gv.length) : (gv.map PyData.int).take k ++ PyData.int v :: (gv.map PyData.int).drop (k + 1) = (gv.set k v).map .int := by
  rw [List.set_eq_take_append_cons_drop, if_pos h, List.map_append, List.map_cons, List.map_take, List.map_drop]
def holdAt (hd : List (List Str)) (p : Int) : List Str := hd.getD p.toNat []
def idleB (ws : List Wr) (hd : List (List Str)) (gv : List Int) (k : Nat) : Bool := match gv[k]? with
  | some p => decide ((comersF ws (holdAt hd p) (gv.set k (-1)) p).length = (comersF ws (holdAt hd p) gv p).length)
  | none => false
def givenF (gv : List Int) : List Nat := (gv.zipIdx.filter fun q => !(q.1 == -1)).map (·.2)
theorem givenF_mem {k : Nat} : k ∈ givenF gv ↔ ∃ p, gv[k]? = some p ∧ p ≠ -1 := by
  unfold givenF
  simp only [List.mem_map, List.mem_filter, Prod.exists, List.mem_zipIdx_iff_getElem?, Bool.not_eq_true', beq_eq_false_iff_ne, ne_eq]
  constructor
  · rintro ⟨a, b, ⟨h1, h2⟩, rfl⟩
    exact ⟨a, h1, h2⟩
  · rintro ⟨p, h1, h2⟩
    exact ⟨p, k, ⟨h1, h2⟩, rfl⟩
theorem set_gr (g : OkG0 hs ws hd gv) (k : Nat) : OkG0 hs ws hd (gv.set k (-1)) := by
  refine ⟨g.toOkH, by rw [List.length_set]; exact g.gl, fun x hx => ?_⟩
  rcases List.mem_or_eq_of_mem_set hx with h | h
  · exact g.gr x h
  · subst h
    omega
theorem fdD_len (F : Fd) : (kvD (fdD F)).length = F.length := by unfold kvD fdD; simp
theorem is_idle_ev (g : OkG0 hs ws hd gv) {k : Nat} {p : Int} (e : gv[k]? = some p) (h1 : p ≠ -1) : runP 7 PD.m__is_idle [net hs ws, HL hd, IT gv, .int (k : Nat)] = some (.bool (idleB ws hd gv k)) := by
  have hk : k < gv.length := (List.getElem?_eq_some_iff.mp e).1
  obtain ⟨r1, r2⟩ := g.gr p (List.mem_of_getElem? e)
  obtain ⟨q, rfl⟩ := Int.eq_ofNat_of_zero_le (show 0 ≤ p by omega)
  have hq : q < hd.length := by omega
  have hm := List.getElem_mem hq
  have eh : hd[q]? = some hd[q] := List.getElem?_eq_getElem hq
  have ea : holdAt hd (q : Int) = hd[q] := by
    unfold holdAt
    rw [Int.toNat_natCast, List.getD_eq_getElem?_getD, eh]
    rfl
  have d1 : dats ((cutD (gv.map PyData.int) none (some (k : Int))).map SV.d ++ SV.d (.int (-1)) :: ((cutD (gv.map PyData.int) (some ((k : Int) + 1)) none).map SV.d)) = some ((gv.set k (-1)).map .int) := by
    rw [cut_take _ (by omega), cut_drop _ (by omega), Int.toNat_natCast, show ((k : Int) + 1).toNat = k + 1 by omega]
    rw [dats_app _ _ (PyData.int (-1) :: (gv.map PyData.int).drop (k + 1)) (by simp only [dats, dats_map]), set_cut gv k (-1) hk]
  have l1 : ((gv.set k (-1)).map PyData.int).length ≤ 100000 := by
    rw [List.length_map, List.length_set, g.gl]
    have := g.wl
    omega
  have l2 : ¬ 100000 < gv.length := by have := g.wl; have := g.gl; omega
  unfold runP PD.m__is_idle
  simp only [mSeq, mPut, mOp, mVar, mC, mIfS, mTest, mTr, mNot, mAsg, mgName, mgTup, mgSeq, mgCons, mgNil, mCB, mCons, mNil, mRet, mRetN, mNext, mPar, mParO, mParOO, mLstN, mAnd, mOr, mAndV, mOrV, mNotV, mIf, mTup, mLst, mSl, mPart, mNoPart, mCall, mCallK, mCallF, mDrop, mDat, mOwn, mListN, mUn, mStar, seqD, flat_l, flat_k, refs1_l, refs1_k, refsB_nil, refsB_cons, mApp, mPop0, mChain, mIsi, mRange, mItems, mEnum, mAnyI, mYes, seqOf, frz, isiB, truD, perm, List.filterMap_cons, List.filterMap_nil, AP.S.on, vw, vws, dats, wipeS, retD, vwE, gS_eq, sS_eq, st0, List.reduceReplicate, List.getElem?_cons_zero, List.getElem?_cons_succ, List.set_cons_zero, List.set_cons_succ, List.map_cons, List.map_nil, List.length_cons, List.length_nil, List.cons_append, List.nil_append, List.append_nil, and_self, and_true, true_and, if_true, if_false, decide_true, decide_false, Bool.and_self, Bool.and_true, Bool.true_and, Bool.not_true, Bool.not_false, Nat.reduceAdd, Nat.reduceSub, Nat.reduceLeDiff, Nat.reduceEqDiff, Nat.zero_add, Nat.zero_le, Int.reduceLT, Int.reduceNeg, gIxT, List.getElem?_map, e, Option.map_some, gSl, gAddI, gNegI, List.append_nil, d1, l1, eh, ct_ev (g.at3 hm), ct_ev ((set_gr g k).at3 hm), gLenD, fdD_len, gEqI]
  congr 2
  unfold idleB
  simp only [e, ea]
  rw [Bool.eq_iff_iff, beq_iff_eq, decide_eq_true_eq]
  omega
def idleF (ws : List Wr) (hd : List (List Str)) (gv : List Int) : List Nat := (givenF gv).filter (idleB ws hd gv)
abbrev NT (xs : List Nat) : D := .tuple (xs.map nI)
theorem idle_ev (g : OkG hs ws hd gv) : runP 6 PD.m_idle_wires [net hs ws, HL hd, IT gv] = some (NT (idleF ws hd gv)) := by
  have gl2 : gv.length ≤ 100000 := by have := g.wl; have := g.gl; omega
  have e0 : PD.lc_idle_wires_0 ⟨[some (.d (net hs ws)), some (.d (HL hd)), some (.d (IT gv)), none, none, none], []⟩ = some (.l ((givenF gv).map nI), []) := by
    unfold PD.lc_idle_wires_0
    have := lcT (im := mEnum (mCons (mVar 2) mNil)) (g := mgTup 2 (mgCons (mgName 4) (mgCons (mgName 5) mgNil))) (c := mTest (mOp gNe (mVar 5) (mUn gNeg (mC (.int 1))))) (e := mVar 4) (vs := [4, 5]) (s := ⟨[some (.d (net hs ws)), some (.d (HL hd)), some (.d (IT gv)), none, none, none], []⟩)
      (fun q : Int × Nat => PyData.tuple [.int (q.2 : Nat), .int q.1]) gv.zipIdx (fun q => !(q.1 == -1)) (fun q => nI q.2) (by simp only [mSeq, mPut, mOp, mVar, mC, mIfS, mTest, mTr, mNot, mAsg, mgName, mgTup, mgSeq, mgCons, mgNil, mCB, mCons, mNil, mRet, mRetN, mNext, mPar, mParO, mParOO, mLstN, mAnd, mOr, mAndV, mOrV, mNotV, mIf, mTup, mLst, mSl, mPart, mNoPart, mCall, mCallK, mCallF, mDrop, mDat, mOwn, mListN, mUn, mStar, seqD, flat_l, flat_k, refs1_l, refs1_k, refsB_nil, refsB_cons, mApp, mPop0, mChain, mIsi, mRange, mItems, mEnum, mAnyI, mYes, seqOf, frz, isiB, truD, perm, List.filterMap_cons, List.filterMap_nil, AP.S.on, vw, vws, dats, wipeS, retD, vwE, gS_eq, sS_eq, st0, List.reduceReplicate, List.getElem?_cons_zero, List.getElem?_cons_succ, List.set_cons_zero, List.set_cons_succ, List.map_cons, List.map_nil, List.length_cons, List.length_nil, List.cons_append, List.nil_append, List.append_nil, and_self, and_true, true_and, if_true, if_false, decide_true, decide_false, Bool.and_self, Bool.and_true, Bool.true_and, Bool.not_true, Bool.not_false, Nat.reduceAdd, Nat.reduceSub, Nat.reduceLeDiff, Nat.reduceEqDiff, Nat.zero_add, Nat.zero_le, Int.reduceLT, Int.reduceNeg, IT, enum0]) (by simp; omega) (by
        rintro ⟨x, i⟩ hx acc
        refine ⟨_, rfl, ?_, fun _ => ?_⟩
        · simp only [mSeq, mPut, mOp, mVar, mC, mIfS, mTest, mTr, mNot, mAsg, mgName, mgTup, mgSeq, mgCons, mgNil, mCB, mCons, mNil, mRet, mRetN, mNext, mPar, mParO, mParOO, mLstN, mAnd, mOr, mAndV, mOrV, mNotV, mIf, mTup, mLst, mSl, mPart, mNoPart, mCall, mCallK, mCallF, mDrop, mDat, mOwn, mListN, mUn, mStar, seqD, flat_l, flat_k, refs1_l, refs1_k, refsB_nil, refsB_cons, mApp, mPop0, mChain, mIsi, mRange, mItems, mEnum, mAnyI, mYes, seqOf, frz, isiB, truD, perm, List.filterMap_cons, List.filterMap_nil, AP.S.on, vw, vws, dats, wipeS, retD, vwE, gS_eq, sS_eq, st0, List.reduceReplicate, List.getElem?_cons_zero, List.getElem?_cons_succ, List.set_cons_zero, List.set_cons_succ, List.map_cons, List.map_nil, List.length_cons, List.length_nil, List.cons_append, List.nil_append, List.append_nil, and_self, and_true, true_and, if_true, if_false, decide_true, decide_false, Bool.and_self, Bool.and_true, Bool.true_and, Bool.not_true, Bool.not_false, Nat.reduceAdd, Nat.reduceSub, Nat.reduceLeDiff, Nat.reduceEqDiff, Nat.zero_add, Nat.zero_le, Int.reduceLT, Int.reduceNeg, gNegI, gNeI]
        · simp only [mSeq, mPut, mOp, mVar, mC, mIfS, mTest, mTr, mNot, mAsg, mgName, mgTup, mgSeq, mgCons, mgNil, mCB, mCons, mNil, mRet, mRetN, mNext, mPar, mParO, mParOO, mLstN, mAnd, mOr, mAndV, mOrV, mNotV, mIf, mTup, mLst, mSl, mPart, mNoPart, mCall, mCallK, mCallF, mDrop, mDat, mOwn, mListN, mUn, mStar, seqD, flat_l, flat_k, refs1_l, refs1_k, refsB_nil, refsB_cons, mApp, mPop0, mChain, mIsi, mRange, mItems, mEnum, mAnyI, mYes, seqOf, frz, isiB, truD, perm, List.filterMap_cons, List.filterMap_nil, AP.S.on, vw, vws, dats, wipeS, retD, vwE, gS_eq, sS_eq, st0, List.reduceReplicate, List.getElem?_cons_zero, List.getElem?_cons_succ, List.set_cons_zero, List.set_cons_succ, List.map_cons, List.map_nil, List.length_cons, List.length_nil, List.cons_append, List.nil_append, List.append_nil, and_self, and_true, true_and, if_true, if_false, decide_true, decide_false, Bool.and_self, Bool.and_true, Bool.true_and, Bool.not_true, Bool.not_false, Nat.reduceAdd, Nat.reduceSub, Nat.reduceLeDiff, Nat.reduceEqDiff, Nat.zero_add, Nat.zero_le, Int.reduceLT, Int.reduceNeg])
    rw [this]
    unfold givenF
    rw [List.map_map]
    rfl
  have e1 : PD.lc_idle_wires_1 ⟨[some (.d (net hs ws)), some (.d (HL hd)), some (.d (IT gv)), some (.d (.list ((givenF gv).map nI))), none, none], []⟩ = some (.l ((idleF ws hd gv).map nI), []) := by
    unfold PD.lc_idle_wires_1
    refine lcT nI (givenF gv) (idleB ws hd gv) nI rfl (by
      unfold givenF
      rw [List.length_map]
      have := List.length_filter_le (fun q : Int × Nat => !(q.1 == -1)) gv.zipIdx
      simp at this
      omega) fun k hk acc => ⟨_, rfl, ?_, fun _ => ?_⟩
    · obtain ⟨p, h1, h2⟩ := givenF_mem.mp hk
      simp only [mSeq, mPut, mOp, mVar, mC, mIfS, mTest, mTr, mNot, mAsg, mgName, mgTup, mgSeq, mgCons, mgNil, mCB, mCons, mNil, mRet, mRetN, mNext, mPar, mParO, mParOO, mLstN, mAnd, mOr, mAndV, mOrV, mNotV, mIf, mTup, mLst, mSl, mPart, mNoPart, mCall, mCallK, mCallF, mDrop, mDat, mOwn, mListN, mUn, mStar, seqD, flat_l, flat_k, refs1_l, refs1_k, refsB_nil, refsB_cons, mApp, mPop0, mChain, mIsi, mRange, mItems, mEnum, mAnyI, mYes, seqOf, frz, isiB, truD, perm, List.filterMap_cons, List.filterMap_nil, AP.S.on, vw, vws, dats, wipeS, retD, vwE, gS_eq, sS_eq, st0, List.reduceReplicate, List.getElem?_cons_zero, List.getElem?_cons_succ, List.set_cons_zero, List.set_cons_succ, List.map_cons, List.map_nil, List.length_cons, List.length_nil, List.cons_append, List.nil_append, List.append_nil, and_self, and_true, true_and, if_true, if_false, decide_true, decide_false, Bool.and_self, Bool.and_true, Bool.true_and, Bool.not_true, Bool.not_false, Nat.reduceAdd, Nat.reduceSub, Nat.reduceLeDiff, Nat.reduceEqDiff, Nat.zero_add, Nat.zero_le, Int.reduceLT, Int.reduceNeg, is_idle_ev g.toOkG0 h1 h2]
    · simp only [mSeq, mPut, mOp, mVar, mC, mIfS, mTest, mTr, mNot, mAsg, mgName, mgTup, mgSeq, mgCons, mgNil, mCB, mCons, mNil, mRet, mRetN, mNext, mPar, mParO, mParOO, mLstN, mAnd, mOr, mAndV, mOrV, mNotV, mIf, mTup, mLst, mSl, mPart, mNoPart, mCall, mCallK, mCallF, mDrop, mDat, mOwn, mListN, mUn, mStar, seqD, flat_l, flat_k, refs1_l, refs1_k, refsB_nil, refsB_cons, mApp, mPop0, mChain, mIsi, mRange, mItems, mEnum, mAnyI, mYes, seqOf, frz, isiB, truD, perm, List.filterMap_cons, List.filterMap_nil, AP.S.on, vw, vws, dats, wipeS, retD, vwE, gS_eq, sS_eq, st0, List.reduceReplicate, List.getElem?_cons_zero, List.getElem?_cons_succ, List.set_cons_zero, List.set_cons_succ, List.map_cons, List.map_nil, List.length_cons, List.length_nil, List.cons_append, List.nil_append, List.append_nil, and_self, and_true, true_and, if_true, if_false, decide_true, decide_false, Bool.and_self, Bool.and_true, Bool.true_and, Bool.not_true, Bool.not_false, Nat.reduceAdd, Nat.reduceSub, Nat.reduceLeDiff, Nat.reduceEqDiff, Nat.zero_add, Nat.zero_le, Int.reduceLT, Int.reduceNeg]
  unfold runP PD.m_idle_wires
  simp only [mSeq, mPut, mOp, mVar, mC, mIfS, mTest, mTr, mNot, mAsg, mgName, mgTup, mgSeq, mgCons, mgNil, mCB, mCons, mNil, mRet, mRetN, mNext, mPar, mParO, mParOO, mLstN, mAnd, mOr, mAndV, mOrV, mNotV, mIf, mTup, mLst, mSl, mPart, mNoPart, mCall, mCallK, mCallF, mDrop, mDat, mOwn, mListN, mUn, mStar, seqD, flat_l, flat_k, refs1_l, refs1_k, refsB_nil, refsB_cons, mApp, mPop0, mChain, mIsi, mRange, mItems, mEnum, mAnyI, mYes, seqOf, frz, isiB, truD, perm, List.filterMap_cons, List.filterMap_nil, AP.S.on, vw, vws, dats, wipeS, retD, vwE, gS_eq, sS_eq, st0, List.reduceReplicate, List.getElem?_cons_zero, List.getElem?_cons_succ, List.set_cons_zero, List.set_cons_succ, List.map_cons, List.map_nil, List.length_cons, List.length_nil, List.cons_append, List.nil_append, List.append_nil, and_self, and_true, true_and, if_true, if_false, decide_true, decide_false, Bool.and_self, Bool.and_true, Bool.true_and, Bool.not_true, Bool.not_false, Nat.reduceAdd, Nat.reduceSub, Nat.reduceLeDiff, Nat.reduceEqDiff, Nat.zero_add, Nat.zero_le, Int.reduceLT, Int.reduceNeg, need_giving_ev g, e0, e1, gTupL]
end
end
end PL

namespace PL
noncomputable section
open PySem PySem.Spec PyProof.Rows L2 RZ AP
section
variable [Tbls] [Gd]
abbrev kS (x : Str) : Key := .inr x
def fdK (k2 k3 k4 : Str) (c n l w : D) : List (Key × D) := [(kC, c), (kS k2, n), (kS k3, l), (kS k4, w)]
abbrev sC : Str := Str.ofString "cells"
structure KN (k2 k3 k4 : Str) : Prop where
  a1 : sC ≠ k2
  a2 : sC ≠ k3
  a3 : sC ≠ k4
  a4 : k2 ≠ k3
  a5 : k2 ≠ k4
  a6 : k3 ≠ k4
section
variable {k2 k3 k4 : Str} (h : KN k2 k3 k4) (c n l w x : D)
theorem inr_ne {x y : Str} (h : x ≠ y) : (Sum.inr x : Key) ≠ Sum.inr y := fun e => h (Sum.inr.inj e)
theorem fdK_ix (y : Str) : gIx (.dict (kvD (fdK k2 k3 k4 c n l w))) (.str y) = if sC = y then some c else if k2 = y then some n else if k3 = y then some l else if k4 = y then some w else none := by
  have : gIx (.dict (kvD (fdK k2 k3 k4 c n l w))) (.str y) = getP (kvD (fdK k2 k3 k4 c n l w)) (.inr y) := rfl
  rw [this, getP_kv]
  unfold fdK
  have e : ∀ z : Str, decide ((Sum.inr z : Key) = Sum.inr y) = decide (z = y) := fun z => by
    rw [decide_eq_decide]
    exact ⟨fun e => Sum.inr.inj e, fun e => e ▸ rfl⟩
  simp only [List.find?_cons, List.find?_nil, e]
  by_cases h1 : sC = y
  · simp [h1]
  · by_cases h2 : k2 = y
    · simp [h1, h2]
    · by_cases h3 : k3 = y
      · simp [h1, h2, h3]
      · by_cases h4 : k4 = y
        · simp [h1, h2, h3, h4]
        · simp [h1, h2, h3, h4]
include h
theorem fdK_c : gIx (.dict (kvD (fdK k2 k3 k4 c n l w))) (.str sC) = some c := by rw [fdK_ix, if_pos rfl]
theorem fdK_2 : gIx (.dict (kvD (fdK k2 k3 k4 c n l w))) (.str k2) = some n := by rw [fdK_ix, if_neg h.a1, if_pos rfl]
theorem fdK_3 : gIx (.dict (kvD (fdK k2 k3 k4 c n l w))) (.str k3) = some l := by rw [fdK_ix, if_neg h.a2, if_neg h.a4, if_pos rfl]
theorem fdK_4 : gIx (.dict (kvD (fdK k2 k3 k4 c n l w))) (.str k4) = some w := by rw [fdK_ix, if_neg h.a3, if_neg h.a5, if_neg h.a6, if_pos rfl]
theorem fdK_p2 : putD (fdK k2 k3 k4 c n l w) (.inr k2) x = fdK k2 k3 k4 c x l w := by unfold fdK; simp only [putD, if_neg (inr_ne h.a1), if_true]
theorem fdK_p3 : putD (fdK k2 k3 k4 c n l w) (.inr k3) x = fdK k2 k3 k4 c n x w := by unfold fdK; simp only [putD, if_neg (inr_ne h.a2), if_neg (inr_ne h.a4), if_true]
theorem fdK_p4 : putD (fdK k2 k3 k4 c n l w) (.inr k4) x = fdK k2 k3 k4 c n l x := by unfold fdK; simp only [putD, if_neg (inr_ne h.a3), if_neg (inr_ne h.a5), if_neg (inr_ne h.a6), if_true]
theorem fdK_nd : (fdK k2 k3 k4 c n l w).length < 100000 ∧ ((fdK k2 k3 k4 c n l w).map (·.1)).Nodup := by
  refine ⟨by show 4 < 100000; decide, ?_⟩
  have := inr_ne h.a1
  have := inr_ne h.a2
  have := inr_ne h.a3
  have := inr_ne h.a4
  have := inr_ne h.a5
  have := inr_ne h.a6
  unfold fdK kC kS
  simp only [List.map_cons, List.map_nil, List.nodup_cons, List.mem_cons, List.not_mem_nil, or_false, not_or, not_false_eq_true, and_true, List.nodup_nil]
  exact ⟨⟨‹_›, ‹_›, ‹_›⟩, ⟨‹_›, ‹_›⟩, ‹_›⟩
end
def fdOK (k2 k3 k4 : Str) (cs : List Int) (n l w : Int) : MO := .k (fdK k2 k3 k4 (.list (cs.map .int)) (.int n) (.int l) (.int w))
def FO (k2 k3 k4 : Str) (fo : MO) : Prop := ∃ cs n l w, fo = fdOK k2 k3 k4 cs n l w
section
variable {k2 k3 k4 : Str}
theorem FO.fl {fo : MO} (h : FO k2 k3 k4 fo) : flat fo = true := by
  obtain ⟨cs, n, l, w, rfl⟩ := h
  rfl
theorem FO.rf {fo : MO} (h : FO k2 k3 k4 fo) (n : Nat) : refs1 n fo = true := by
  obtain ⟨cs, n, l, w, rfl⟩ := h
  rfl
theorem FO.run {N : Nat} {m : SM} {fo : MO} {ds : List D} {d : D} {fo' : MO} (h1 : FO k2 k3 k4 fo) (h2 : FO k2 k3 k4 fo') (h : retF (m ⟨st0 N (.m 0 :: ds.map .d), [fo]⟩) = some (d, fo')) : runF N m fo ds = some (d, fo') := flat2_eq h h1.fl h2.fl
theorem FO.init (ns : List Int) : FO k2 k3 k4 (feed0K k2 k3 k4 ns) := ⟨ns, 0, 0, 0, rfl⟩
end
theorem tkStr (x : Str) : toKey (.str x) = some (.inr x) := rfl
end
end
end PL

namespace PL
noncomputable section
open PySem PySem.Spec PyProof.Rows L2 RZ AP
section
variable [Tbls] [Gd]
theorem ints_kind (t : Nat × Nat) (h2 : t.2 ≠ 2) (h9 : t.2 ≠ 9) (cs : List Int) : noTag t (.list (cs.map .int)) = true := by
  have e : ∀ cs : List Int, noTags t (cs.map PyData.int) = true := fun cs => by
    induction cs with
    | nil => simp [noTags]
    | cons c r ih => simp only [List.map_cons, noTags, noTag, ih, Bool.and_self]
  have b : ∀ n : Nat, t.2 ≠ n → Nat.beq n t.2 = false := fun n h => by
    cases hb : Nat.beq n t.2 with
    | false => rfl
    | true => exact absurd (Nat.eq_of_beq_eq_true hb).symm h
  simp only [noTag, e, Bool.and_true, Bool.not_eq_true']
  cases cs with
  | nil => simp only [List.map_nil, tagD, tagB, b 9 h9, Bool.and_false]
  | cons c r => simp only [List.map_cons, tagD, tagB, kindD, b 2 h2, Bool.and_false]
theorem FO.noTag {k2 k3 k4 : Str} {fo : MO} (h : FO k2 k3 k4 fo) {t : Nat × Nat} (h2 : t.2 ≠ 2) (h9 : t.2 ≠ 9) : noTagM t fo = true := by
  obtain ⟨cs, n, l, w, rfl⟩ := h
  have e := ints_kind t h2 h9 cs
  simp only [fdOK, fdK, noTagM, List.all_cons, List.all_nil, e, Bool.true_and, Bool.and_true]
  simp [AP.noTag]
end
end
end PL
namespace PF2
noncomputable section
open PySem PySem.Spec PyProof.Rows L2 RZ AP PL
section
variable [Tbls] [Gd]
def DC2.ok (k : DC2) : Bool := decide (0 < k.m1) && (decide (0 < k.m2) && (decide (k.m2 < 4294967296) && (decide (0 < k.m3) && (decide (k.m3 < 4294967296) && (decide (0 < k.m4) && (decide (-4294967296 < k.a1) && (decide (k.a1 < 4294967296) && (decide (-4294967296 < k.a2) && (decide (k.a2 < 4294967296) && (decide (-4294967296 < k.a3) && (decide (k.a3 < 4294967296) && (decide (0 < k.dv) && decide (k.dv < 1000)))))))))))))
abbrev w2 : Str := Str.ofString "spot"
abbrev w3 : Str := Str.ofString "left"
abbrev w4 : Str := Str.ofString "drawn"
theorem kn : KN w2 w3 w4 := ⟨by decide +kernel, by decide +kernel, by decide +kernel, by decide +kernel, by decide +kernel, by decide +kernel⟩
abbrev FeedOk (fo : MO) : Prop := FO w2 w3 w4 fo
theorem draw_ev {k : DC2} (hk : k.ok = true) {cs : List Int} {n l w many : Int} (h0 : 0 < many) (h1 : many < 1073741824) : ∃ d n' l' w', runF 7 (m__law_draw k) (fdOK w2 w3 w4 cs n l w) [.int many] = some (.int d, fdOK w2 w3 w4 cs n' l' w') ∧ 0 ≤ d ∧ d < many := by
  obtain ⟨c0, m1, a1, b1, m2, a2, b2, m3, a3, m4, dv⟩ := k
  simp only [DC2.ok, Bool.and_eq_true, decide_eq_true_eq] at hk
  obtain ⟨p1, p2, p3, p4, p5, p6, p7, p8, p9, p10, p11, p12, p13, p14⟩ := hk
  have p15 : dv < 1073741824 := by omega
  have gM1 : ∀ e b : Int, gMul (.int (e % m2)) (.int b) = some (.int ((e % m2) * b)) := fun e b => mul_l (by have := Int.emod_nonneg e (show m2 ≠ 0 by omega); omega) (by have := Int.emod_lt_of_pos e p2; omega)
  have gM2 : ∀ e b : Int, gMul (.int (e % m3)) (.int b) = some (.int ((e % m3) * b)) := fun e b => mul_l (by have := Int.emod_nonneg e (show m3 ≠ 0 by omega); omega) (by have := Int.emod_lt_of_pos e p4; omega)
  have gM3 : ∀ b : Int, gMul (.int a1) (.int b) = some (.int (a1 * b)) := fun b => mul_l (by omega) (by omega)
  have gM4 : ∀ b : Int, gMul (.int a2) (.int b) = some (.int (a2 * b)) := fun b => mul_l (by omega) (by omega)
  have gM5 : ∀ b : Int, gMul (.int a3) (.int b) = some (.int (a3 * b)) := fun b => mul_l (by omega) (by omega)
  unfold runF m__law_draw fdOK
  simp only [List.map_cons, List.map_nil, st0_7]
  have tl : ∀ e : Int, 0 ≤ e % many ∧ e % many < many := fun e => ⟨Int.emod_nonneg _ (by omega), Int.emod_lt_of_pos _ h0⟩
  by_cases hl : 0 < l
  · refine ⟨l % many, n, l / many, w + 1, ?_, tl _⟩
    simp only [mSeq, mPut, mOp, mVar, mC, mIfS, mTest, mAsg, mgName, mCB, mCons, mNil, mRet, mNext, S.on, vw, vws, gS_eq, sS_eq, List.getElem?_cons_zero, List.getElem?_cons_succ, List.set_cons_zero, List.set_cons_succ,
      fdK_c kn, fdK_2 kn, fdK_3 kn, fdK_4 kn, tkStr, fdK_p2 kn, fdK_p3 kn, fdK_p4 kn, fdK_nd kn, and_self, if_true, gAddU, g2I, oel, gGtU, gInt, mod_e, div_e, hl, h0, h1, decide_true, retF, flat2_kk, Bool.and_self]
  · have cell : ∃ c : Int, ∀ (a b : Option SV) (q e : Option SV) (o : List MO), mIf (mTest (mOp gNe (mVar 5) (mLst mNil))) (mOp gIx (mVar 5) (mOp gMod (mCB gInt (mCons (mVar 6) mNil)) (mCB gLen (mCons (mVar 5) mNil)))) (mC (.int c0))
        ⟨[a, b, q, e, none, some (.d (.list (cs.map .int))), some (.d (.int n))], o⟩ = some (.d (.int c), o) := by
      cases cs with
      | nil => exact ⟨c0, fun a b q e o => by simp only [mIf, mTest, mOp, mVar, mLst, mNil, S.on, vw, vws, dats, gS_eq, sS_eq, List.getElem?_cons_zero, List.getElem?_cons_succ, ne_nil, mC, List.length_nil, Nat.zero_le, if_true]⟩
      | cons x xs =>
        have hp : (0 : Int) < ((x :: xs).map PyData.int).length := by simp only [List.length_map, List.length_cons]; omega
        obtain ⟨c, hc⟩ := cell_in (x :: xs) (i := n % ((x :: xs).map PyData.int).length) (Int.emod_nonneg _ (by omega)) (by
          have := Int.emod_lt_of_pos n hp
          simpa using this)
        exact ⟨c, fun a b q e o => by simp only [mIf, mTest, mOp, mVar, mLst, mNil, mCons, mCB, gInt, gLen, gMod, g2I, S.on, vw, vws, dats, gS_eq, sS_eq, List.getElem?_cons_zero, List.getElem?_cons_succ, ne_ints, mC, List.length_nil, Nat.zero_le, if_true, hp, decide_true, hc]⟩
    obtain ⟨c, hc⟩ := cell
    by_cases b1' : (1000000000000000000 : Int) ≤ c ∧ n < ((cs.map PyData.int).length : Int)
    · obtain ⟨q1, q2⟩ := b1'
      refine ⟨c % many, n + 1, c / many, w + 1, ?_, tl _⟩
      simp only [mSeq, mPut, mOp, mVar, mC, mIfS, mTest, mAsg, mgName, mCB, mCons, mNil, mRet, mNext, mPar, mAnd, S.on, vw, vws, gS_eq, sS_eq, List.getElem?_cons_zero, List.getElem?_cons_succ, List.set_cons_zero, List.set_cons_succ, hc, pow18,
          fdK_c kn, fdK_2 kn, fdK_3 kn, fdK_4 kn, tkStr, fdK_p2 kn, fdK_p3 kn, fdK_p4 kn, fdK_nd kn, and_self, if_true, gAddU, g2I, oel, gGtU, gGeU, gLtU, gLen, gInt, mod_e, div_e, hl, h0, h1, q1, q2, decide_true, decide_false, retF, flat2_kk, Bool.and_self]
    · refine ⟨((((((c % m1 + a1 * (w + 1) + b1) % m2) * (((c % m1 + a1 * (w + 1) + b1) % m2)) + a2 * (w + 1) + b2) % m3) * ((((c % m1 + a1 * (w + 1) + b1) % m2) * (((c % m1 + a1 * (w + 1) + b1) % m2)) + a2 * (w + 1) + b2) % m3) + a3 * ((((c % m1 + a1 * (w + 1) + b1) % m2) * (((c % m1 + a1 * (w + 1) + b1) % m2)) + a2 * (w + 1) + b2) % m3)) % m4 / dv) % many, n + 1, l, w + 1, ?_, tl _⟩
      by_cases q1 : (1000000000000000000 : Int) ≤ c
      · have q2 : ¬ n < ((cs.map PyData.int).length : Int) := fun z => b1' ⟨q1, z⟩
        simp only [mSeq, mPut, mOp, mVar, mC, mIfS, mTest, mAsg, mgName, mCB, mCons, mNil, mRet, mNext, mPar, mAnd, S.on, vw, vws, gS_eq, sS_eq, List.getElem?_cons_zero, List.getElem?_cons_succ, List.set_cons_zero, List.set_cons_succ, hc, pow18, gM1, gM2, gM3, gM4, gM5, Int.reduceLT, p1, p2, p4, p6, p13, p15,
          fdK_c kn, fdK_2 kn, fdK_3 kn, fdK_4 kn, tkStr, fdK_p2 kn, fdK_p3 kn, fdK_p4 kn, fdK_nd kn, and_self, if_true, gAddU, g2I, oel, gGtU, gGeU, gLtU, gLen, gInt, mod_e, div_e, hl, h0, h1, q1, q2, decide_true, decide_false, retF, flat2_kk, Bool.and_self]
      · simp only [mSeq, mPut, mOp, mVar, mC, mIfS, mTest, mAsg, mgName, mCB, mCons, mNil, mRet, mNext, mPar, mAnd, S.on, vw, vws, gS_eq, sS_eq, List.getElem?_cons_zero, List.getElem?_cons_succ, List.set_cons_zero, List.set_cons_succ, hc, pow18, gM1, gM2, gM3, gM4, gM5, Int.reduceLT, p1, p2, p4, p6, p13, p15,
          fdK_c kn, fdK_2 kn, fdK_3 kn, fdK_4 kn, tkStr, fdK_p2 kn, fdK_p3 kn, fdK_p4 kn, fdK_nd kn, and_self, if_true, gAddU, g2I, oel, gGtU, gGeU, gLtU, gLen, gInt, mod_e, div_e, hl, h0, h1, q1, decide_true, decide_false, retF, flat2_kk, Bool.and_self]
theorem draw {k : DC2} (hk : k.ok = true) {fo : MO} (h : FeedOk fo) {many : Int} (h0 : 0 < many) (h1 : many < 1073741824) : ∃ d fo', runF 7 (m__law_draw k) fo [.int many] = some (.int d, fo') ∧ 0 ≤ d ∧ d < many ∧ FeedOk fo' := by
  obtain ⟨cs, n, l, w, rfl⟩ := h
  obtain ⟨d, n', l', w', e, a, b⟩ := draw_ev hk (cs := cs) (n := n) (l := l) (w := w) h0 h1
  exact ⟨d, _, e, a, b, cs, n', l', w', rfl⟩
theorem drawN {k : DC2} (hk : k.ok = true) {fo : MO} (h : FeedOk fo) {n : Nat} (h0 : 0 < n) (h1 : n < 1000000) : ∃ (d : Nat) (fo' : MO), runF 7 (m__law_draw k) fo [.int (n : Int)] = some (.int (d : Int), fo') ∧ d < n ∧ FeedOk fo' := by
  obtain ⟨d, fo', e, a, b, f⟩ := draw hk h (many := (n : Int)) (by omega) (by omega)
  exact ⟨d.toNat, fo', by rw [Int.toNat_of_nonneg a]; exact e, by omega, f⟩
theorem any_l {k : DC2} (hk : k.ok = true) {fo : MO} (h : FeedOk fo) {L : List D} (h0 : L ≠ []) (h1 : L.length < 1000000) : ∃ x fo', runF 2 (m__law_any k) fo [.list L] = some (x, fo') ∧ x ∈ L ∧ FeedOk fo' := by
  obtain ⟨d, fo', e, a, f⟩ := drawN hk h (n := L.length) (List.length_pos_iff.mpr h0) h1
  have e2 := List.getElem?_eq_getElem a
  refine ⟨L[d], fo', h.run f ?_, List.getElem_mem a, f⟩
  unfold m__law_any
  simp only [mSeq, mPut, mOp, mVar, mC, mIfS, mTest, mTr, mNot, mAsg, mgName, mgTup, mgSeq, mgCons, mgNil, mCB, mCons, mNil, mRet, mRetN, mNext, mPar, mParO, mParOO, mLstN, mAnd, mOr, mAndV, mOrV, mNotV, mIf, mTup, mLst, mSl, mPart, mNoPart, mCall, mCallK, mCallF, mDrop, mDat, mOwn, mListN, mUn, mStar, seqD, flat_l, flat_k, refs1_l, refs1_k, refsB_nil, refsB_cons, mApp, mPop0, mChain, mIsi, mRange, mItems, mEnum, mAnyI, mYes, seqOf, frz, isiB, truD, perm, List.filterMap_cons, List.filterMap_nil, AP.S.on, vw, vws, dats, wipeS, retD, vwE, gS_eq, sS_eq, st0, List.reduceReplicate, List.getElem?_cons_zero, List.getElem?_cons_succ, List.set_cons_zero, List.set_cons_succ, List.map_cons, List.map_nil, List.length_cons, List.length_nil, List.cons_append, List.nil_append, List.append_nil, and_self, and_true, true_and, if_true, if_false, decide_true, decide_false, Bool.and_self, Bool.and_true, Bool.true_and, Bool.not_true, Bool.not_false, Nat.reduceAdd, Nat.reduceSub, Nat.reduceLeDiff, Nat.reduceEqDiff, Nat.zero_add, Nat.zero_le, Int.reduceLT, Int.reduceNeg, gLenL, e, gIxL, e2, retF]
theorem any_t {k : DC2} (hk : k.ok = true) {fo : MO} (h : FeedOk fo) {L : List D} (h0 : L ≠ []) (h1 : L.length < 1000000) : ∃ x fo', runF 2 (m__law_any k) fo [.tuple L] = some (x, fo') ∧ x ∈ L ∧ FeedOk fo' := by
  obtain ⟨d, fo', e, a, f⟩ := drawN hk h (n := L.length) (List.length_pos_iff.mpr h0) h1
  have e2 := List.getElem?_eq_getElem a
  refine ⟨L[d], fo', h.run f ?_, List.getElem_mem a, f⟩
  unfold m__law_any
  simp only [mSeq, mPut, mOp, mVar, mC, mIfS, mTest, mTr, mNot, mAsg, mgName, mgTup, mgSeq, mgCons, mgNil, mCB, mCons, mNil, mRet, mRetN, mNext, mPar, mParO, mParOO, mLstN, mAnd, mOr, mAndV, mOrV, mNotV, mIf, mTup, mLst, mSl, mPart, mNoPart, mCall, mCallK, mCallF, mDrop, mDat, mOwn, mListN, mUn, mStar, seqD, flat_l, flat_k, refs1_l, refs1_k, refsB_nil, refsB_cons, mApp, mPop0, mChain, mIsi, mRange, mItems, mEnum, mAnyI, mYes, seqOf, frz, isiB, truD, perm, List.filterMap_cons, List.filterMap_nil, AP.S.on, vw, vws, dats, wipeS, retD, vwE, gS_eq, sS_eq, st0, List.reduceReplicate, List.getElem?_cons_zero, List.getElem?_cons_succ, List.set_cons_zero, List.set_cons_succ, List.map_cons, List.map_nil, List.length_cons, List.length_nil, List.cons_append, List.nil_append, List.append_nil, and_self, and_true, true_and, if_true, if_false, decide_true, decide_false, Bool.and_self, Bool.and_true, Bool.true_and, Bool.not_true, Bool.not_false, Nat.reduceAdd, Nat.reduceSub, Nat.reduceLeDiff, Nat.reduceEqDiff, Nat.zero_add, Nat.zero_le, Int.reduceLT, Int.reduceNeg, gLenT, e, gIxT, e2, retF]
end
end
end PF2

namespace PL
noncomputable section
open PySem PySem.Spec PyProof.Rows L2 RZ AP
section
variable [Tbls] [Gd]
theorem strs_kind (t : Nat × Nat) (h2 : t.2 ≠ 3) (h9 : t.2 ≠ 9) (cs : List Str) : noTag t (.list (cs.map .str)) = true := by
  have e : ∀ cs : List Str, noTags t (cs.map PyData.str) = true := fun cs => by
    induction cs with
    | nil => simp [noTags]
    | cons c r ih => simp only [List.map_cons, noTags, noTag, ih, Bool.and_self]
  have b : ∀ n : Nat, t.2 ≠ n → Nat.beq n t.2 = false := fun n h => by
    cases hb : Nat.beq n t.2 with
    | false => rfl
    | true => exact absurd (Nat.eq_of_beq_eq_true hb).symm h
  simp only [noTag, e, Bool.and_true, Bool.not_eq_true']
  cases cs with
  | nil => simp only [List.map_nil, tagD, tagB, b 9 h9, Bool.and_false]
  | cons c r => simp only [List.map_cons, tagD, tagB, kindD, b 3 h2, Bool.and_false]
theorem ixP_nat {d n : Nat} (h : d < n) (h2 : n < 1000000) : ixP (d : Int) n = some d := by
  unfold ixP
  rw [if_pos (by omega)]
  exact (ixN_seq (n := n) (i := (d : Int)) (j := d) (by
    unfold ixN
    rw [if_pos (by omega), if_pos (by omega), Int.toNat_natCast])).1
theorem popI_ev {a b : EM} {s : S} {k : Nat} {o1 o2 : List MO} {ds0 ds : List D} {i : Int} {j : Nat} {d : D} (ha : a s = some (.m k, o1)) (h1 : o1[k]? = some (.l ds0)) (hb : b (s.on o1) = some (.d (.int i), o2)) (h2 : o2[k]? = some (.l ds)) (hj : ixP i ds.length = some j) (hd : ds[j]? = some d) :
    mPopI a b s = some (.d d, o2.set k (.l (ds.eraseIdx j))) := by
  unfold mPopI
  rw [ha]
  dsimp only
  rw [h1]
  dsimp only
  rw [hb]
  dsimp only
  rw [h2]
  dsimp only
  rw [hj]
  dsimp only
  rw [hd]
theorem perm_pop {α : Type} {found pool : List α} {P : List α} {d : Nat} {x : α} (h : (found ++ pool).Perm P) (e : pool[d]? = some x) : ((found ++ [x]) ++ pool.eraseIdx d).Perm P := by
  refine List.Perm.trans ?_ h
  rw [List.append_assoc]
  refine List.Perm.append_left _ ?_
  exact erase_perm pool d x e
theorem mRange_nat (n : Nat) (hn : n ≤ 100000) (a : AM) (s : S) (o : List MO) (h : a s = some ([.d (.int (n : Int))], o)) : mRange a s = some ((List.range n).map nI, o) := by
  simp only [mRange, h]
  rw [if_pos (by omega), Int.toNat_natCast]
  rfl
end
end
end PL
namespace PF2
noncomputable section
open PySem PySem.Spec PyProof.Rows L2 RZ AP PL
section
variable [Tbls] [Gd]
def p0 : List Str := ["a", "b", "c", "d", "e", "f", "g", "h", "i", "j", "k", "l"].map Str.ofString
def p1 : List Str := ["a", "aa", "aaa", "ab", "b", "ba", "zzzzzzzz", "zzzzzzzy", "z", "zz", "abcdefgh", "y"].map Str.ofString
def p2 : List Str := ["houses", "none", "net", "wire", "piece", "give", "lose", "lay", "all", "short", "going", "on"].map Str.ofString
theorem pools_ok : ∀ P ∈ [p0, p1, p2], P.Nodup ∧ P.length = 12 ∧ ∀ x ∈ P, nameS x = true := by decide +kernel
theorem pool1 (s : S) : ml__law_names_0 s = some (.d (.list (p1.map .str)), s.o) := by
  unfold ml__law_names_0
  rfl
theorem pool2 (s : S) : ml__law_names_1 s = some (.d (.list (p2.map .str)), s.o) := by
  unfold ml__law_names_1
  rfl
theorem abc_list : gListW [.str (Str.ofString "abcdefghijkl")] = some (.list (p0.map .str)) := by kernel_rfl
theorem names {k : DC2} (hk : k.ok = true) {fo : MO} (h : FeedOk fo) {n : Nat} (hn : n ≤ 12) :
    ∃ (L : List Str) (fo' : MO), runF 6 (m__law_names k) fo [.int (n : Int)] = some (.list (L.map .str), fo') ∧ L.length = n ∧ L.Nodup ∧ (∀ x ∈ L, nameS x = true) ∧ FeedOk fo' := by
  obtain ⟨x, f1, e1, hx, h1⟩ := any_l hk h (L := [p0, p1, p2].map fun p => .list (p.map .str)) (by simp) (by simp)
  obtain ⟨P, hP, rfl⟩ := List.mem_map.mp hx
  obtain ⟨nd, hl, nm⟩ := pools_ok P hP
  have lp : ∀ pl : List D, ∃ s', fl__law_names_3 k ⟨[some (.m 0), some (.d (.int (n : Int))), some (.m 1), none, some (.m 2), some (.m 3)], [f1, .l pl, .l (P.map .str), .l []]⟩ = some (.nx s') ∧
      ∃ (f : MO) (lap : Option SV) (pool found : List Str), s' = (⟨[some (.m 0), some (.d (.int (n : Int))), some (.m 1), lap, some (.m 2), some (.m 3)], [f, .l pl, .l (pool.map .str), .l (found.map .str)]⟩ : S) ∧ FeedOk f ∧ (found ++ pool).Perm P ∧ found.length = (List.range n).length := by
    intro pl
    unfold fl__law_names_3
    refine forT nI (List.range n) (fun i s => ∃ (f : MO) (lap : Option SV) (pool found : List Str), s = (⟨[some (.m 0), some (.d (.int (n : Int))), some (.m 1), lap, some (.m 2), some (.m 3)], [f, .l pl, .l (pool.map .str), .l (found.map .str)]⟩ : S) ∧ FeedOk f ∧ (found ++ pool).Perm P ∧ found.length = i)
      (mRange_nat n (by omega) _ _ _ (by simp only [mSeq, mPut, mOp, mVar, mC, mIfS, mTest, mTr, mNot, mAsg, mgName, mgTup, mgSeq, mgCons, mgNil, mCB, mCons, mNil, mRet, mRetN, mNext, mPar, mParO, mParOO, mLstN, mAnd, mOr, mAndV, mOrV, mNotV, mIf, mTup, mLst, mSl, mPart, mNoPart, mCall, mCallK, mCallF, mDrop, mDat, mOwn, mListN, mUn, mStar, seqD, flat_l, flat_k, refs1_l, refs1_k, refsB_nil, refsB_cons, mApp, mPop0, mChain, mIsi, mRange, mItems, mEnum, mAnyI, mYes, seqOf, frz, isiB, truD, perm, List.filterMap_cons, List.filterMap_nil, AP.S.on, vw, vws, dats, wipeS, retD, vwE, gS_eq, sS_eq, st0, List.reduceReplicate, List.getElem?_cons_zero, List.getElem?_cons_succ, List.set_cons_zero, List.set_cons_succ, List.map_cons, List.map_nil, List.length_cons, List.length_nil, List.cons_append, List.nil_append, List.append_nil, and_self, and_true, true_and, if_true, if_false, decide_true, decide_false, Bool.and_self, Bool.and_true, Bool.true_and, Bool.not_true, Bool.not_false, Nat.reduceAdd, Nat.reduceSub, Nat.reduceLeDiff, Nat.reduceEqDiff, Nat.zero_add, Nat.zero_le, Int.reduceLT, Int.reduceNeg])) ⟨f1, none, P, [], rfl, h1, by simp, rfl⟩ ?_
    rintro i x s hi ⟨f, lap, pool, found, rfl, hf, pm, fl⟩
    have hin : i < n := by
      have := (List.getElem?_eq_some_iff.mp hi).1
      simpa using this
    have pll : pool.length = 12 - i := by
      have := pm.length_eq
      rw [List.length_append] at this
      omega
    obtain ⟨d, g, e2, dl, hg⟩ := drawN hk hf (n := pool.length) (by omega) (by omega)
    have ed := List.getElem?_eq_getElem dl
    have er : (pool.map PyData.str).eraseIdx d = (pool.eraseIdx d).map PyData.str := by rw [List.eraseIdx_eq_take_drop_succ, List.eraseIdx_eq_take_drop_succ, List.map_append, List.map_take, List.map_drop]
    refine ⟨_, ⟨[some (.m 0), some (.d (.int (n : Int))), some (.m 1), some (.d (nI x)), some (.m 2), some (.m 3)], [g, .l pl, .l ((pool.eraseIdx d).map .str), .l ((found ++ [pool[d]]).map .str)]⟩, rfl, .inl ?_, g, some (.d (nI x)), pool.eraseIdx d, found ++ [pool[d]], rfl, hg, perm_pop pm ed, by simp [fl]⟩
    unfold fb__law_names_2
    have fl2 : found.length < 100000 := by omega
    have c : mCallF 2 (runF 7 (m__law_draw k)) (mCons (mVar 0) (mCons (mCB gLen (mCons (mVar 4) mNil)) mNil)) ⟨[some (.m 0), some (.d (.int (n : Int))), some (.m 1), some (.d (nI x)), some (.m 2), some (.m 3)], [f, .l pl, .l (pool.map .str), .l (found.map .str)]⟩ = some (.d (.int d), [g, .l pl, .l (pool.map .str), .l (found.map .str)]) := by
      simp only [mSeq, mPut, mOp, mVar, mC, mIfS, mTest, mTr, mNot, mAsg, mgName, mgTup, mgSeq, mgCons, mgNil, mCB, mCons, mNil, mRet, mRetN, mNext, mPar, mParO, mParOO, mLstN, mAnd, mOr, mAndV, mOrV, mNotV, mIf, mTup, mLst, mSl, mPart, mNoPart, mCall, mCallK, mCallF, mDrop, mDat, mOwn, mListN, mUn, mStar, seqD, flat_l, flat_k, refs1_l, refs1_k, refsB_nil, refsB_cons, mApp, mPop0, mChain, mIsi, mRange, mItems, mEnum, mAnyI, mYes, seqOf, frz, isiB, truD, perm, List.filterMap_cons, List.filterMap_nil, AP.S.on, vw, vws, dats, wipeS, retD, vwE, gS_eq, sS_eq, st0, List.reduceReplicate, List.getElem?_cons_zero, List.getElem?_cons_succ, List.set_cons_zero, List.set_cons_succ, List.map_cons, List.map_nil, List.length_cons, List.length_nil, List.cons_append, List.nil_append, List.append_nil, and_self, and_true, true_and, if_true, if_false, decide_true, decide_false, Bool.and_self, Bool.and_true, Bool.true_and, Bool.not_true, Bool.not_false, Nat.reduceAdd, Nat.reduceSub, Nat.reduceLeDiff, Nat.reduceEqDiff, Nat.zero_add, Nat.zero_le, Int.reduceLT, Int.reduceNeg, gLenL, List.length_map, e2]
    have dx := ixP_nat dl (by omega)
    generalize mCallF 2 (runF 7 (m__law_draw k)) (mCons (mVar 0) (mCons (mCB gLen (mCons (mVar 4) mNil)) mNil)) = X at c ⊢
    have c2 : mPopI (mVar 4) X ⟨[some (.m 0), some (.d (.int (n : Int))), some (.m 1), some (.d (nI x)), some (.m 2), some (.m 3)], [f, .l pl, .l (pool.map .str), .l (found.map .str)]⟩ = some (.d (.str pool[d]), [g, .l pl, .l ((pool.eraseIdx d).map .str), .l (found.map .str)]) := by
      have := popI_ev (a := mVar 4) (b := X) (s := ⟨[some (.m 0), some (.d (.int (n : Int))), some (.m 1), some (.d (nI x)), some (.m 2), some (.m 3)], [f, .l pl, .l (pool.map .str), .l (found.map .str)]⟩) rfl rfl c rfl (by rw [List.length_map]; exact dx) (by rw [List.getElem?_map, ed]; rfl)
      rw [this, er]
      rfl
    generalize mPopI (mVar 4) X = Y at c2 ⊢
    simp only [mSeq, mPut, mOp, mVar, mC, mIfS, mTest, mTr, mNot, mAsg, mgName, mgTup, mgSeq, mgCons, mgNil, mCB, mCons, mNil, mRet, mRetN, mNext, mPar, mParO, mParOO, mLstN, mAnd, mOr, mAndV, mOrV, mNotV, mIf, mTup, mLst, mSl, mPart, mNoPart, mCall, mCallK, mCallF, mDrop, mDat, mOwn, mListN, mUn, mStar, seqD, flat_l, flat_k, refs1_l, refs1_k, refsB_nil, refsB_cons, mApp, mPop0, mChain, mIsi, mRange, mItems, mEnum, mAnyI, mYes, seqOf, frz, isiB, truD, perm, List.filterMap_cons, List.filterMap_nil, AP.S.on, vw, vws, dats, wipeS, retD, vwE, gS_eq, sS_eq, st0, List.reduceReplicate, List.getElem?_cons_zero, List.getElem?_cons_succ, List.set_cons_zero, List.set_cons_succ, List.map_cons, List.map_nil, List.length_cons, List.length_nil, List.cons_append, List.nil_append, List.append_nil, and_self, and_true, true_and, if_true, if_false, decide_true, decide_false, Bool.and_self, Bool.and_true, Bool.true_and, Bool.not_true, Bool.not_false, Nat.reduceAdd, Nat.reduceSub, Nat.reduceLeDiff, Nat.reduceEqDiff, Nat.zero_add, Nat.zero_le, Int.reduceLT, Int.reduceNeg, c2, List.length_map, fl2, List.map_append]
  obtain ⟨s', el, f, lap, pool, found, rfl, hf, pm, fl⟩ := lp ([p0, p1, p2].map fun p => .list (p.map .str))
  rw [List.length_range] at fl
  refine ⟨found, f, h.run hf ?_, fl, ?_, fun x hx => nm x (pm.mem_iff.mp (List.mem_append_left _ hx)), hf⟩
  · unfold m__law_names
    have t1 : noTag (3, 4) (.list (P.map .str)) = true := strs_kind _ (by decide) (by decide) P
    have t2 : noTagM (3, 4) f1 = true := h1.noTag (by decide) (by decide)
    simp only [List.map_cons, List.map_nil] at e1 el
    simp only [mSeq, mPut, mOp, mVar, mC, mIfS, mTest, mTr, mNot, mAsg, mgName, mgTup, mgSeq, mgCons, mgNil, mCB, mCons, mNil, mRet, mRetN, mNext, mPar, mParO, mParOO, mLstN, mAnd, mOr, mAndV, mOrV, mNotV, mIf, mTup, mLst, mSl, mPart, mNoPart, mCall, mCallK, mCallF, mDrop, mDat, mOwn, mListN, mUn, mStar, seqD, flat_l, flat_k, refs1_l, refs1_k, refsB_nil, refsB_cons, mApp, mPop0, mChain, mIsi, mRange, mItems, mEnum, mAnyI, mYes, seqOf, frz, isiB, truD, perm, List.filterMap_cons, List.filterMap_nil, AP.S.on, vw, vws, dats, wipeS, retD, vwE, gS_eq, sS_eq, st0, List.reduceReplicate, List.getElem?_cons_zero, List.getElem?_cons_succ, List.set_cons_zero, List.set_cons_succ, List.map_cons, List.map_nil, List.length_cons, List.length_nil, List.cons_append, List.nil_append, List.append_nil, and_self, and_true, true_and, if_true, if_false, decide_true, decide_false, Bool.and_self, Bool.and_true, Bool.true_and, Bool.not_true, Bool.not_false, Nat.reduceAdd, Nat.reduceSub, Nat.reduceLeDiff, Nat.reduceEqDiff, Nat.zero_add, Nat.zero_le, Int.reduceLT, Int.reduceNeg, abc_list, pool1, pool2, mCallFT, tagsOf, tagD, kindD, Option.some.injEq, Nat.reduceLT, e1, t1, t2, List.all_cons, List.all_nil, el, retF, vwG]
    rw [if_neg (by decide)]
  · have := pm.nodup_iff.mpr nd
    exact (List.nodup_append.mp this).1
end
end
end PF2

namespace PL
noncomputable section
open PySem PySem.Spec PyProof.Rows L2 RZ AP
section
variable [Tbls] [Gd]
theorem sortX_strs {xs : List Str} (h : xs.length < 64) : gSortedX [.list (xs.map .str)] = some (.list ((sortS xs).map .str)) := by
  unfold gSortedX
  rw [gSortedW_strs h]
  rfl
theorem str_ext {x y : Str} (h : x.cps.toList = y.cps.toList) : x = y := by
  cases x; cases y
  simp only [Str.mk.injEq]
  exact Array.toList_inj.mp h
theorem le_ltS {x y : Str} (h : LeS x y) (n : x ≠ y) : ltS x y := by
  have h1 := leS_iff.mp h
  rcases List.le_iff_lt_or_eq.mp h1 with h | h
  · exact h
  · exact absurd (str_ext h) n
theorem sort_up {xs : List Str} (h : xs.Nodup) : (sortS xs).Pairwise ltS := by
  have nd : (sortS xs).Nodup := (sortS_perm xs).nodup_iff.mpr h
  exact (List.Pairwise.and (sortS_pw xs) nd).imp fun h => le_ltS h.1 h.2
theorem sort_mem {xs : List Str} {x : Str} : x ∈ sortS xs ↔ x ∈ xs := (sortS_perm xs).mem_iff
theorem ix_other {n a e : Nat} (ha : a < n) (he : e < n - 1) : ∃ j, ixN n ((a : Int) - 1 - (e : Int)) = some j ∧ j < n ∧ j ≠ a := by
  unfold ixN
  by_cases h : (0 : Int) ≤ (a : Int) - 1 - (e : Int)
  · refine ⟨((a : Int) - 1 - (e : Int)).toNat, ?_, by omega, by omega⟩
    rw [if_pos h, if_pos (by omega)]
  · refine ⟨((a : Int) - 1 - (e : Int) + n).toNat, ?_, by omega, by omega⟩
    rw [if_neg h, if_pos (by omega)]
theorem lay_prs {ws : List Wr} {hs : List Str} (nm : ∀ a ∈ hs, nameS a = true) (ok : okW hs ws) : PyData.canLayAll0 (ws.map pr) = true :=
  canLay_prs fun p hp => ⟨name_ok (nm _ (ok p hp).1), name_ok (nm _ (ok p hp).2.1)⟩
theorem gNe_nilL {xs : List D} (h : shp (.list xs) = true) : gNe (.list xs) (.list []) = some (.bool (!xs.isEmpty)) := by
  unfold gNe
  simp only [h, shapes_nil, Bool.and_self, if_true, PyData.eqv]
  cases xs with
  | nil => rfl
  | cons a r => simp only [PyData.eqvAll, List.isEmpty_cons]
theorem shpL_prs {ws : List Wr} {hs : List Str} (nm : ∀ a ∈ hs, nameS a = true) (ok : okW hs ws) : shp (.list (ws.map pr)) = true :=
  shp_of (by simp only [PyData.canLay0]; exact lay_prs nm ok) (by have := depth_prs ws; simp only [PyData.depth]; omega)
end
end
end PL
namespace PF2
noncomputable section
open PySem PySem.Spec PyProof.Rows L2 RZ AP PL
section
variable [Tbls] [Gd]
theorem ix_str (L : List Str) {i : Int} {j : Nat} {x : Str} (h : ixN L.length i = some j) (e : L[j]? = some x) : gIx (.list (L.map PyData.str)) (.int i) = some (.str x) := by
  show atI (L.map PyData.str) i = _
  unfold atI
  rw [List.length_map, h]
  show (L.map PyData.str)[j]? = _
  rw [List.getElem?_map, e]
  rfl
theorem tuple_kind (n : Nat) (a b : Str) : noTag (n, 5) (.tuple [.str a, .str b]) = true := rfl
theorem noTag_found {ws : List Wr} {f : MO} (hf : FeedOk f) {a b : Str} (ne : ws ≠ []) : ∃ t, tagsOf (some 0) [f, .l (ws.map pr)] [.m 1] = some [t] ∧ ([t].all fun t => noTag t (.tuple [.str a, .str b]) && noTagM t f) = true := by
  cases ws with
  | nil => exact absurd rfl ne
  | cons w r =>
    refine ⟨((r.map pr).length + 1, 5), rfl, ?_⟩
    have h1 := hf.noTag (t := ((r.map pr).length + 1, 5)) (show (5 : Nat) ≠ 2 by decide) (show (5 : Nat) ≠ 9 by decide)
    simp only [List.all_cons, List.all_nil, tuple_kind, h1, Bool.and_self]
theorem any_pair {k : DC2} (hk : k.ok = true) {f : MO} (hf : FeedOk f) {ws : List Wr} (ne : ws ≠ []) (hl : ws.length < 1000000) {σ : List (Option SV)} (e0 : σ[0]? = some (some (.m 0))) (e4 : σ[4]? = some (some (.m 1))) :
    ∃ p ∈ ws, ∃ f', FeedOk f' ∧ mCallFT 2 (runF 2 (m__law_any k)) (mCons (mVar 0) (mCons (mVar 4) mNil)) ⟨σ, [f, .l (ws.map pr)]⟩ = some (.d (pr p), [f', .l (ws.map pr)]) := by
  obtain ⟨x, f', e, hx, h'⟩ := any_l hk hf (L := ws.map pr) (by simpa using ne) (by simpa using hl)
  obtain ⟨p, hp, rfl⟩ := List.mem_map.mp hx
  obtain ⟨t, t1, t2⟩ := noTag_found (a := p.1) (b := p.2) h' ne
  have t1' : tagsOf (some 0) [f, .l (ws.map pr)] [.m 1] = some [t] := t1
  refine ⟨p, hp, f', h', ?_⟩
  have e9 : pr p = .tuple [.str p.1, .str p.2] := rfl
  rw [← e9] at t2
  simp only [mCallFT, mCons, mVar, mNil, gS_eq, S.on, e0, e4, List.getElem?_cons_zero, List.getElem?_cons_succ, vws, vw, t1', List.length_cons, List.length_nil, e, t2, if_true, Nat.zero_add, Nat.reduceAdd, List.set_cons_zero]
theorem grid {k : DC2} (hk : k.ok = true) {fo : MO} (h : FeedOk fo) {A B : Nat} (a2 : 2 ≤ A) (a7 : A ≤ 12) (b9 : B ≤ 1000) :
    ∃ (hs : List Str) (ws : List Wr) (fo' : MO), runF 9 (m__law_grid k) fo [.int (A : Int), .int (B : Int)] = some (net hs ws, fo') ∧ OkN hs ws ∧ hs.length ≤ A ∧ ws.length ≤ B ∧ FeedOk fo' := by
  -- the names
  have nmS : ∃ (L : List Str) (f1 : MO), FeedOk f1 ∧ 1 ≤ L.length ∧ L.length ≤ A ∧ L.Nodup ∧ (∀ x ∈ L, nameS x = true) ∧
      mIf (mTest (mOp gGtU (mCallF 2 (runF 7 (m__law_draw k)) (mCons (mVar 0) (mCons (mC (.int 20)) mNil))) (mC (.int 0)))) (mCallF 2 (runF 6 (m__law_names k)) (mCons (mVar 0) (mCons (mOp gAddU (mC (.int 2)) (mCallF 2 (runF 7 (m__law_draw k)) (mCons (mVar 0) (mCons (mOp gSub (mVar 1) (mC (.int 1))) mNil)))) mNil))) (mCallF 2 (runF 6 (m__law_names k)) (mCons (mVar 0) (mCons (mC (.int 1)) mNil)))
        ⟨[some (.m 0), some (.d (.int A)), some (.d (.int B)), none, none, none, none, none, none], [fo]⟩ = some (.d (.list (L.map .str)), [f1]) := by
    obtain ⟨d, f1, e1, d20, h1⟩ := drawN hk h (n := 20) (by decide) (by decide)
    have e1' : runF 7 (m__law_draw k) fo [.int 20] = some (.int (d : Int), f1) := e1
    by_cases hd : (0 : Int) < d
    · obtain ⟨c, f2, e2, cA, h2⟩ := drawN hk h1 (n := A - 1) (by omega) (by omega)
      have e2' : runF 7 (m__law_draw k) f1 [.int ((A : Int) - 1)] = some (.int (c : Int), f2) := by rw [show (A : Int) - 1 = ((A - 1 : Nat) : Int) by omega]; exact e2
      obtain ⟨L, f3, e3, l1, l2, l3, h3⟩ := names hk h2 (n := 2 + c) (by omega)
      have e3' : runF 6 (m__law_names k) f2 [.int (2 + (c : Int))] = some (.list (L.map .str), f3) := by rw [show 2 + (c : Int) = ((2 + c : Nat) : Int) by omega]; exact e3
      refine ⟨L, f3, h3, by omega, by omega, l2, l3, ?_⟩
      simp only [mSeq, mPut, mOp, mVar, mC, mIfS, mTest, mTr, mNot, mAsg, mgName, mgTup, mgSeq, mgCons, mgNil, mCB, mCons, mNil, mRet, mRetN, mNext, mPar, mParO, mParOO, mLstN, mAnd, mOr, mAndV, mOrV, mNotV, mIf, mTup, mLst, mSl, mPart, mNoPart, mCall, mCallK, mCallF, mDrop, mDat, mOwn, mListN, mUn, mStar, seqD, flat_l, flat_k, refs1_l, refs1_k, refsB_nil, refsB_cons, mApp, mPop0, mChain, mIsi, mRange, mItems, mEnum, mAnyI, mYes, seqOf, frz, isiB, truD, perm, List.filterMap_cons, List.filterMap_nil, AP.S.on, vw, vws, dats, wipeS, retD, vwE, gS_eq, sS_eq, st0, List.reduceReplicate, List.getElem?_cons_zero, List.getElem?_cons_succ, List.set_cons_zero, List.set_cons_succ, List.map_cons, List.map_nil, List.length_cons, List.length_nil, List.cons_append, List.nil_append, List.append_nil, and_self, and_true, true_and, if_true, if_false, decide_true, decide_false, Bool.and_self, Bool.and_true, Bool.true_and, Bool.not_true, Bool.not_false, Nat.reduceAdd, Nat.reduceSub, Nat.reduceLeDiff, Nat.reduceEqDiff, Nat.zero_add, Nat.zero_le, Int.reduceLT, Int.reduceNeg, e1', gGtUI, decide_eq_true hd, gSubI, e2', gAddI, e3']
    · obtain ⟨L, f3, e3, l1, l2, l3, h3⟩ := names hk h1 (n := 1) (by decide)
      have e3' : runF 6 (m__law_names k) f1 [.int 1] = some (.list (L.map .str), f3) := e3
      refine ⟨L, f3, h3, by omega, by omega, l2, l3, ?_⟩
      simp only [mSeq, mPut, mOp, mVar, mC, mIfS, mTest, mTr, mNot, mAsg, mgName, mgTup, mgSeq, mgCons, mgNil, mCB, mCons, mNil, mRet, mRetN, mNext, mPar, mParO, mParOO, mLstN, mAnd, mOr, mAndV, mOrV, mNotV, mIf, mTup, mLst, mSl, mPart, mNoPart, mCall, mCallK, mCallF, mDrop, mDat, mOwn, mListN, mUn, mStar, seqD, flat_l, flat_k, refs1_l, refs1_k, refsB_nil, refsB_cons, mApp, mPop0, mChain, mIsi, mRange, mItems, mEnum, mAnyI, mYes, seqOf, frz, isiB, truD, perm, List.filterMap_cons, List.filterMap_nil, AP.S.on, vw, vws, dats, wipeS, retD, vwE, gS_eq, sS_eq, st0, List.reduceReplicate, List.getElem?_cons_zero, List.getElem?_cons_succ, List.set_cons_zero, List.set_cons_succ, List.map_cons, List.map_nil, List.length_cons, List.length_nil, List.cons_append, List.nil_append, List.append_nil, and_self, and_true, true_and, if_true, if_false, decide_true, decide_false, Bool.and_self, Bool.and_true, Bool.true_and, Bool.not_true, Bool.not_false, Nat.reduceAdd, Nat.reduceSub, Nat.reduceLeDiff, Nat.reduceEqDiff, Nat.zero_add, Nat.zero_le, Int.reduceLT, Int.reduceNeg, e1', gGtUI, decide_eq_false hd, e3']
  obtain ⟨L, f1, h1, L1, LA, nd, nm, e1⟩ := nmS
  have lm : (L.map PyData.str).length = L.length := List.length_map _
  -- how many wires
  have cnt : ∃ (n : Nat) (f2 : MO), FeedOk f2 ∧ n ≤ B ∧ (0 < n → 1 < L.length) ∧ mRange (mCons (mIf (mTest (mOp gGtU (mCB gLen (mCons (mVar 3) mNil)) (mC (.int 1)))) (mCallF 2 (runF 7 (m__law_draw k)) (mCons (mVar 0) (mCons (mOp gAddU (mVar 2) (mC (.int 1))) mNil))) (mC (.int 0))) mNil)
      ⟨[some (.m 0), some (.d (.int A)), some (.d (.int B)), some (.d (.list (L.map .str))), some (.m 1), none, none, none, none], [f1, .l []]⟩ = some ((List.range n).map nI, [f2, .l []]) := by
    by_cases hl : (1 : Int) < L.length
    · obtain ⟨n, f2, e2, nB, h2⟩ := drawN hk h1 (n := B + 1) (by omega) (by omega)
      have e2' : runF 7 (m__law_draw k) f1 [.int ((B : Int) + 1)] = some (.int (n : Int), f2) := e2
      refine ⟨n, f2, h2, by omega, fun _ => by omega, mRange_nat n (by omega) _ _ _ ?_⟩
      simp only [mSeq, mPut, mOp, mVar, mC, mIfS, mTest, mTr, mNot, mAsg, mgName, mgTup, mgSeq, mgCons, mgNil, mCB, mCons, mNil, mRet, mRetN, mNext, mPar, mParO, mParOO, mLstN, mAnd, mOr, mAndV, mOrV, mNotV, mIf, mTup, mLst, mSl, mPart, mNoPart, mCall, mCallK, mCallF, mDrop, mDat, mOwn, mListN, mUn, mStar, seqD, flat_l, flat_k, refs1_l, refs1_k, refsB_nil, refsB_cons, mApp, mPop0, mChain, mIsi, mRange, mItems, mEnum, mAnyI, mYes, seqOf, frz, isiB, truD, perm, List.filterMap_cons, List.filterMap_nil, AP.S.on, vw, vws, dats, wipeS, retD, vwE, gS_eq, sS_eq, st0, List.reduceReplicate, List.getElem?_cons_zero, List.getElem?_cons_succ, List.set_cons_zero, List.set_cons_succ, List.map_cons, List.map_nil, List.length_cons, List.length_nil, List.cons_append, List.nil_append, List.append_nil, and_self, and_true, true_and, if_true, if_false, decide_true, decide_false, Bool.and_self, Bool.and_true, Bool.true_and, Bool.not_true, Bool.not_false, Nat.reduceAdd, Nat.reduceSub, Nat.reduceLeDiff, Nat.reduceEqDiff, Nat.zero_add, Nat.zero_le, Int.reduceLT, Int.reduceNeg, gLenL, lm, gGtUI, decide_eq_true hl, gAddI, e2']
    · refine ⟨0, f1, h1, by omega, fun z => absurd z (by decide), mRange_nat 0 (by omega) _ _ _ ?_⟩
      simp only [mSeq, mPut, mOp, mVar, mC, mIfS, mTest, mTr, mNot, mAsg, mgName, mgTup, mgSeq, mgCons, mgNil, mCB, mCons, mNil, mRet, mRetN, mNext, mPar, mParO, mParOO, mLstN, mAnd, mOr, mAndV, mOrV, mNotV, mIf, mTup, mLst, mSl, mPart, mNoPart, mCall, mCallK, mCallF, mDrop, mDat, mOwn, mListN, mUn, mStar, seqD, flat_l, flat_k, refs1_l, refs1_k, refsB_nil, refsB_cons, mApp, mPop0, mChain, mIsi, mRange, mItems, mEnum, mAnyI, mYes, seqOf, frz, isiB, truD, perm, List.filterMap_cons, List.filterMap_nil, AP.S.on, vw, vws, dats, wipeS, retD, vwE, gS_eq, sS_eq, st0, List.reduceReplicate, List.getElem?_cons_zero, List.getElem?_cons_succ, List.set_cons_zero, List.set_cons_succ, List.map_cons, List.map_nil, List.length_cons, List.length_nil, List.cons_append, List.nil_append, List.append_nil, and_self, and_true, true_and, if_true, if_false, decide_true, decide_false, Bool.and_self, Bool.and_true, Bool.true_and, Bool.not_true, Bool.not_false, Nat.reduceAdd, Nat.reduceSub, Nat.reduceLeDiff, Nat.reduceEqDiff, Nat.zero_add, Nat.zero_le, Int.reduceLT, Int.reduceNeg, gLenL, lm, gGtUI, decide_eq_false hl]
      rfl
  obtain ⟨n, f2, h2, nB, n1, e2⟩ := cnt
  have lp : ∃ s', fl__law_grid_1 k ⟨[some (.m 0), some (.d (.int A)), some (.d (.int B)), some (.d (.list (L.map .str))), some (.m 1), none, none, none, none], [f1, .l []]⟩ = some (.nx s') ∧
      ∃ (f : MO) (a5 a6 a7 a8 : Option SV) (ws : List Wr), s' = (⟨[some (.m 0), some (.d (.int A)), some (.d (.int B)), some (.d (.list (L.map .str))), some (.m 1), a5, a6, a7, a8], [f, .l (ws.map pr)]⟩ : S) ∧ FeedOk f ∧ okW L ws ∧ ws.length = (List.range n).length := by
    unfold fl__law_grid_1
    refine forT nI (List.range n) (fun i s => ∃ (f : MO) (a5 a6 a7 a8 : Option SV) (ws : List Wr), s = (⟨[some (.m 0), some (.d (.int A)), some (.d (.int B)), some (.d (.list (L.map .str))), some (.m 1), a5, a6, a7, a8], [f, .l (ws.map pr)]⟩ : S) ∧ FeedOk f ∧ okW L ws ∧ ws.length = i)
      e2 ⟨f2, none, none, none, none, [], rfl, h2, (fun p hp => by simp at hp), rfl⟩ ?_
    rintro i x s hi ⟨f, a5, a6, a7, a8, ws, rfl, hf, ow, wl⟩
    have hin : i < n := by
      have := (List.getElem?_eq_some_iff.mp hi).1
      simpa using this
    have L2 := n1 (by omega)
    obtain ⟨a, g1, q1, ha, k1⟩ := drawN hk hf (n := L.length) (by omega) (by omega)
    obtain ⟨e, g2, q2, he, k2⟩ := drawN hk k1 (n := L.length - 1) (by omega) (by omega)
    obtain ⟨st, g3, q3, hst, k3⟩ := drawN hk k2 (n := 6) (by decide) (by decide)
    have q2' : runF 7 (m__law_draw k) g1 [.int ((L.length : Int) - 1)] = some (.int (e : Int), g2) := by rw [show (L.length : Int) - 1 = ((L.length - 1 : Nat) : Int) by omega]; exact q2
    have q3' : runF 7 (m__law_draw k) g2 [.int 6] = some (.int (st : Int), g3) := q3
    obtain ⟨j, hj1, hj2, hj3⟩ := ix_other ha he
    have ea : gIx (.list (L.map PyData.str)) (.int (a : Int)) = some (.str L[a]) := ix_str L (j := a) (by unfold ixN; rw [if_pos (by omega), if_pos (by omega), Int.toNat_natCast]) (List.getElem?_eq_getElem ha)
    have eb : gIx (.list (L.map PyData.str)) (.int ((a : Int) - 1 - (e : Int))) = some (.str L[j]) := ix_str L hj1 (List.getElem?_eq_getElem hj2)
    have nab : L[a] ≠ L[j] := fun z => hj3 (nodup_get nd (List.getElem?_eq_getElem hj2) (by rw [← z]; exact List.getElem?_eq_getElem ha))
    have okp : ∀ p : Wr, p.1 ∈ L ∧ p.2 ∈ L ∧ p.1 ≠ p.2 → okW L (ws ++ [p]) := fun p hp q hq => by
      rcases List.mem_append.mp hq with z | z
      · exact ow q z
      · rw [List.mem_singleton.mp z]; exact hp
    have sL := shpL_prs nm ow
    -- the pair that is laid
    have pick : ∃ (p : Wr) (g4 : MO), FeedOk g4 ∧ (p.1 ∈ L ∧ p.2 ∈ L ∧ p.1 ≠ p.2) ∧
        mSeq (mIfS (mAnd (mTest (mOp gNe (mVar 4) (mLst mNil))) (mTest (mOp gEq (mVar 8) (mC (.int 0))))) (mAsg (mCallFT 2 (runF 2 (m__law_any k)) (mCons (mVar 0) (mCons (mVar 4) mNil))) (mgName 7)) mNext) (mSeq (mIfS (mAnd (mTest (mOp gNe (mVar 4) (mLst mNil))) (mTest (mOp gEq (mVar 8) (mC (.int 1))))) (mAsg (mRev (mCallFT 2 (runF 2 (m__law_any k)) (mCons (mVar 0) (mCons (mVar 4) mNil)))) (mgName 7)) mNext) (mApp (mVar 4) (mVar 7)))
          ⟨[some (.m 0), some (.d (.int A)), some (.d (.int B)), some (.d (.list (L.map .str))), some (.m 1), some (.d (nI x)), some (.d (.int a)), some (.d (pr (L[a], L[j]))), some (.d (.int st))], [g3, .l (ws.map pr)]⟩ =
        some (.nx ⟨[some (.m 0), some (.d (.int A)), some (.d (.int B)), some (.d (.list (L.map .str))), some (.m 1), some (.d (nI x)), some (.d (.int a)), some (.d (pr p)), some (.d (.int st))], [g4, .l ((ws ++ [p]).map pr)]⟩) := by
      have wl2 : ws.length < 100000 := by omega
      by_cases hw : ws = []
      · subst hw
        refine ⟨(L[a], L[j]), g3, k3, ⟨List.getElem_mem ha, List.getElem_mem hj2, nab⟩, ?_⟩
        have s0 : gNe (.list []) (.list []) = some (.bool false) := ne_nil
        simp only [mSeq, mPut, mOp, mVar, mC, mIfS, mTest, mTr, mNot, mAsg, mgName, mgTup, mgSeq, mgCons, mgNil, mCB, mCons, mNil, mRet, mRetN, mNext, mPar, mParO, mParOO, mLstN, mAnd, mOr, mAndV, mOrV, mNotV, mIf, mTup, mLst, mSl, mPart, mNoPart, mCall, mCallK, mCallF, mDrop, mDat, mOwn, mListN, mUn, mStar, seqD, flat_l, flat_k, refs1_l, refs1_k, refsB_nil, refsB_cons, mApp, mPop0, mChain, mIsi, mRange, mItems, mEnum, mAnyI, mYes, seqOf, frz, isiB, truD, perm, List.filterMap_cons, List.filterMap_nil, AP.S.on, vw, vws, dats, wipeS, retD, vwE, gS_eq, sS_eq, st0, List.reduceReplicate, List.getElem?_cons_zero, List.getElem?_cons_succ, List.set_cons_zero, List.set_cons_succ, List.map_cons, List.map_nil, List.length_cons, List.length_nil, List.cons_append, List.nil_append, List.append_nil, and_self, and_true, true_and, if_true, if_false, decide_true, decide_false, Bool.and_self, Bool.and_true, Bool.true_and, Bool.not_true, Bool.not_false, Nat.reduceAdd, Nat.reduceSub, Nat.reduceLeDiff, Nat.reduceEqDiff, Nat.zero_add, Nat.zero_le, Int.reduceLT, Int.reduceNeg, s0]
        rfl
      · have s1 : gNe (.list (ws.map pr)) (.list []) = some (.bool true) := by
          rw [gNe_nilL sL]
          simp [hw]
        have s1e : ∀ t, mOp gNe (mVar 4) (mLst mNil) ⟨[some (.m 0), some (.d (.int A)), some (.d (.int B)), some (.d (.list (L.map .str))), some (.m 1), some (.d (nI x)), some (.d (.int a)), some (.d t), some (.d (.int st))], [g3, .l (ws.map pr)]⟩ = some (.d (.bool true), [g3, .l (ws.map pr)]) := fun t => by simp only [mSeq, mPut, mOp, mVar, mC, mIfS, mTest, mTr, mNot, mAsg, mgName, mgTup, mgSeq, mgCons, mgNil, mCB, mCons, mNil, mRet, mRetN, mNext, mPar, mParO, mParOO, mLstN, mAnd, mOr, mAndV, mOrV, mNotV, mIf, mTup, mLst, mSl, mPart, mNoPart, mCall, mCallK, mCallF, mDrop, mDat, mOwn, mListN, mUn, mStar, seqD, flat_l, flat_k, refs1_l, refs1_k, refsB_nil, refsB_cons, mApp, mPop0, mChain, mIsi, mRange, mItems, mEnum, mAnyI, mYes, seqOf, frz, isiB, truD, perm, List.filterMap_cons, List.filterMap_nil, AP.S.on, vw, vws, dats, wipeS, retD, vwE, gS_eq, sS_eq, st0, List.reduceReplicate, List.getElem?_cons_zero, List.getElem?_cons_succ, List.set_cons_zero, List.set_cons_succ, List.map_cons, List.map_nil, List.length_cons, List.length_nil, List.cons_append, List.nil_append, List.append_nil, and_self, and_true, true_and, if_true, if_false, decide_true, decide_false, Bool.and_self, Bool.and_true, Bool.true_and, Bool.not_true, Bool.not_false, Nat.reduceAdd, Nat.reduceSub, Nat.reduceLeDiff, Nat.reduceEqDiff, Nat.zero_add, Nat.zero_le, Int.reduceLT, Int.reduceNeg, s1]
        by_cases s0 : (st : Int) = 0
        · obtain ⟨p, hp, g4, k4, q4⟩ := any_pair hk k3 hw (by omega) (σ := [some (.m 0), some (.d (.int A)), some (.d (.int B)), some (.d (.list (L.map .str))), some (.m 1), some (.d (nI x)), some (.d (.int a)), some (.d (pr (L[a], L[j]))), some (.d (.int st))]) rfl rfl
          refine ⟨p, g4, k4, ow p hp, ?_⟩
          have b0 : ((st : Int) == 0) = true := by simpa using s0
          have b1 : ((st : Int) == 1) = false := by rw [s0]; rfl
          simp only [mSeq, mPut, mOp, mVar, mC, mIfS, mTest, mTr, mNot, mAsg, mgName, mgTup, mgSeq, mgCons, mgNil, mCB, mCons, mNil, mRet, mRetN, mNext, mPar, mParO, mParOO, mLstN, mAnd, mOr, mAndV, mOrV, mNotV, mIf, mTup, mLst, mSl, mPart, mNoPart, mCall, mCallK, mCallF, mDrop, mDat, mOwn, mListN, mUn, mStar, seqD, flat_l, flat_k, refs1_l, refs1_k, refsB_nil, refsB_cons, mApp, mPop0, mChain, mIsi, mRange, mItems, mEnum, mAnyI, mYes, seqOf, frz, isiB, truD, perm, List.filterMap_cons, List.filterMap_nil, AP.S.on, vw, vws, dats, wipeS, retD, vwE, gS_eq, sS_eq, st0, List.reduceReplicate, List.getElem?_cons_zero, List.getElem?_cons_succ, List.set_cons_zero, List.set_cons_succ, List.map_cons, List.map_nil, List.length_cons, List.length_nil, List.cons_append, List.nil_append, List.append_nil, and_self, and_true, true_and, if_true, if_false, decide_true, decide_false, Bool.and_self, Bool.and_true, Bool.true_and, Bool.not_true, Bool.not_false, Nat.reduceAdd, Nat.reduceSub, Nat.reduceLeDiff, Nat.reduceEqDiff, Nat.zero_add, Nat.zero_le, Int.reduceLT, Int.reduceNeg, s1, PL.gEqI, b0, b1, q4, List.length_map, wl2, List.map_append]
        · have b0 : ((st : Int) == 0) = false := by simpa using s0
          by_cases s1' : (st : Int) = 1
          · obtain ⟨p, hp, g4, k4, q4⟩ := any_pair hk k3 hw (by omega) (σ := [some (.m 0), some (.d (.int A)), some (.d (.int B)), some (.d (.list (L.map .str))), some (.m 1), some (.d (nI x)), some (.d (.int a)), some (.d (pr (L[a], L[j]))), some (.d (.int st))]) rfl rfl
            obtain ⟨z1, z2, z3⟩ := ow p hp
            refine ⟨(p.2, p.1), g4, k4, ⟨z2, z1, fun e => z3 e.symm⟩, ?_⟩
            have b1 : ((st : Int) == 1) = true := by simpa using s1'
            have rv : [PyData.str p.1, PyData.str p.2].reverse = [PyData.str p.2, PyData.str p.1] := rfl
            have ep : pr p = .tuple [.str p.1, .str p.2] := rfl
            simp only [mSeq, mPut, mOp, mVar, mC, mIfS, mTest, mTr, mNot, mAsg, mgName, mgTup, mgSeq, mgCons, mgNil, mCB, mCons, mNil, mRet, mRetN, mNext, mPar, mParO, mParOO, mLstN, mAnd, mOr, mAndV, mOrV, mNotV, mIf, mTup, mLst, mSl, mPart, mNoPart, mCall, mCallK, mCallF, mDrop, mDat, mOwn, mListN, mUn, mStar, seqD, flat_l, flat_k, refs1_l, refs1_k, refsB_nil, refsB_cons, mApp, mPop0, mChain, mIsi, mRange, mItems, mEnum, mAnyI, mYes, seqOf, frz, isiB, truD, perm, List.filterMap_cons, List.filterMap_nil, AP.S.on, vw, vws, dats, wipeS, retD, vwE, gS_eq, sS_eq, st0, List.reduceReplicate, List.getElem?_cons_zero, List.getElem?_cons_succ, List.set_cons_zero, List.set_cons_succ, List.map_cons, List.map_nil, List.length_cons, List.length_nil, List.cons_append, List.nil_append, List.append_nil, and_self, and_true, true_and, if_true, if_false, decide_true, decide_false, Bool.and_self, Bool.and_true, Bool.true_and, Bool.not_true, Bool.not_false, Nat.reduceAdd, Nat.reduceSub, Nat.reduceLeDiff, Nat.reduceEqDiff, Nat.zero_add, Nat.zero_le, Int.reduceLT, Int.reduceNeg, s1, PL.gEqI, b0, b1, mRev, q4, ep, rv, List.length_map, wl2, List.map_append]
            rfl
          · have b1 : ((st : Int) == 1) = false := by simpa using s1'
            refine ⟨(L[a], L[j]), g3, k3, ⟨List.getElem_mem ha, List.getElem_mem hj2, nab⟩, ?_⟩
            simp only [mSeq, mPut, mOp, mVar, mC, mIfS, mTest, mTr, mNot, mAsg, mgName, mgTup, mgSeq, mgCons, mgNil, mCB, mCons, mNil, mRet, mRetN, mNext, mPar, mParO, mParOO, mLstN, mAnd, mOr, mAndV, mOrV, mNotV, mIf, mTup, mLst, mSl, mPart, mNoPart, mCall, mCallK, mCallF, mDrop, mDat, mOwn, mListN, mUn, mStar, seqD, flat_l, flat_k, refs1_l, refs1_k, refsB_nil, refsB_cons, mApp, mPop0, mChain, mIsi, mRange, mItems, mEnum, mAnyI, mYes, seqOf, frz, isiB, truD, perm, List.filterMap_cons, List.filterMap_nil, AP.S.on, vw, vws, dats, wipeS, retD, vwE, gS_eq, sS_eq, st0, List.reduceReplicate, List.getElem?_cons_zero, List.getElem?_cons_succ, List.set_cons_zero, List.set_cons_succ, List.map_cons, List.map_nil, List.length_cons, List.length_nil, List.cons_append, List.nil_append, List.append_nil, and_self, and_true, true_and, if_true, if_false, decide_true, decide_false, Bool.and_self, Bool.and_true, Bool.true_and, Bool.not_true, Bool.not_false, Nat.reduceAdd, Nat.reduceSub, Nat.reduceLeDiff, Nat.reduceEqDiff, Nat.zero_add, Nat.zero_le, Int.reduceLT, Int.reduceNeg, s1, PL.gEqI, b0, b1, List.length_map, wl2, List.map_append]
    obtain ⟨p, g4, k4, hp, e4⟩ := pick
    refine ⟨_, _, rfl, .inl ?_, g4, some (.d (nI x)), some (.d (.int a)), some (.d (pr p)), some (.d (.int st)), ws ++ [p], rfl, k4, okp p hp, by simp [wl]⟩
    unfold fb__law_grid_0
    refine seq_nx (s1 := ⟨[some (.m 0), some (.d (.int A)), some (.d (.int B)), some (.d (.list (L.map .str))), some (.m 1), some (.d (nI x)), some (.d (.int a)), a7, a8], [g1, .l (ws.map pr)]⟩) (by simp only [mSeq, mPut, mOp, mVar, mC, mIfS, mTest, mTr, mNot, mAsg, mgName, mgTup, mgSeq, mgCons, mgNil, mCB, mCons, mNil, mRet, mRetN, mNext, mPar, mParO, mParOO, mLstN, mAnd, mOr, mAndV, mOrV, mNotV, mIf, mTup, mLst, mSl, mPart, mNoPart, mCall, mCallK, mCallF, mDrop, mDat, mOwn, mListN, mUn, mStar, seqD, flat_l, flat_k, refs1_l, refs1_k, refsB_nil, refsB_cons, mApp, mPop0, mChain, mIsi, mRange, mItems, mEnum, mAnyI, mYes, seqOf, frz, isiB, truD, perm, List.filterMap_cons, List.filterMap_nil, AP.S.on, vw, vws, dats, wipeS, retD, vwE, gS_eq, sS_eq, st0, List.reduceReplicate, List.getElem?_cons_zero, List.getElem?_cons_succ, List.set_cons_zero, List.set_cons_succ, List.map_cons, List.map_nil, List.length_cons, List.length_nil, List.cons_append, List.nil_append, List.append_nil, and_self, and_true, true_and, if_true, if_false, decide_true, decide_false, Bool.and_self, Bool.and_true, Bool.true_and, Bool.not_true, Bool.not_false, Nat.reduceAdd, Nat.reduceSub, Nat.reduceLeDiff, Nat.reduceEqDiff, Nat.zero_add, Nat.zero_le, Int.reduceLT, Int.reduceNeg, gLenL, lm, q1]) ?_
    refine seq_nx (s1 := ⟨[some (.m 0), some (.d (.int A)), some (.d (.int B)), some (.d (.list (L.map .str))), some (.m 1), some (.d (nI x)), some (.d (.int a)), some (.d (pr (L[a], L[j]))), a8], [g2, .l (ws.map pr)]⟩) (by simp only [mSeq, mPut, mOp, mVar, mC, mIfS, mTest, mTr, mNot, mAsg, mgName, mgTup, mgSeq, mgCons, mgNil, mCB, mCons, mNil, mRet, mRetN, mNext, mPar, mParO, mParOO, mLstN, mAnd, mOr, mAndV, mOrV, mNotV, mIf, mTup, mLst, mSl, mPart, mNoPart, mCall, mCallK, mCallF, mDrop, mDat, mOwn, mListN, mUn, mStar, seqD, flat_l, flat_k, refs1_l, refs1_k, refsB_nil, refsB_cons, mApp, mPop0, mChain, mIsi, mRange, mItems, mEnum, mAnyI, mYes, seqOf, frz, isiB, truD, perm, List.filterMap_cons, List.filterMap_nil, AP.S.on, vw, vws, dats, wipeS, retD, vwE, gS_eq, sS_eq, st0, List.reduceReplicate, List.getElem?_cons_zero, List.getElem?_cons_succ, List.set_cons_zero, List.set_cons_succ, List.map_cons, List.map_nil, List.length_cons, List.length_nil, List.cons_append, List.nil_append, List.append_nil, and_self, and_true, true_and, if_true, if_false, decide_true, decide_false, Bool.and_self, Bool.and_true, Bool.true_and, Bool.not_true, Bool.not_false, Nat.reduceAdd, Nat.reduceSub, Nat.reduceLeDiff, Nat.reduceEqDiff, Nat.zero_add, Nat.zero_le, Int.reduceLT, Int.reduceNeg, gLenL, lm, q2', ea, gSubI, eb]; rfl) ?_
    refine seq_nx (s1 := ⟨[some (.m 0), some (.d (.int A)), some (.d (.int B)), some (.d (.list (L.map .str))), some (.m 1), some (.d (nI x)), some (.d (.int a)), some (.d (pr (L[a], L[j]))), some (.d (.int st))], [g3, .l (ws.map pr)]⟩) (by simp only [mSeq, mPut, mOp, mVar, mC, mIfS, mTest, mTr, mNot, mAsg, mgName, mgTup, mgSeq, mgCons, mgNil, mCB, mCons, mNil, mRet, mRetN, mNext, mPar, mParO, mParOO, mLstN, mAnd, mOr, mAndV, mOrV, mNotV, mIf, mTup, mLst, mSl, mPart, mNoPart, mCall, mCallK, mCallF, mDrop, mDat, mOwn, mListN, mUn, mStar, seqD, flat_l, flat_k, refs1_l, refs1_k, refsB_nil, refsB_cons, mApp, mPop0, mChain, mIsi, mRange, mItems, mEnum, mAnyI, mYes, seqOf, frz, isiB, truD, perm, List.filterMap_cons, List.filterMap_nil, AP.S.on, vw, vws, dats, wipeS, retD, vwE, gS_eq, sS_eq, st0, List.reduceReplicate, List.getElem?_cons_zero, List.getElem?_cons_succ, List.set_cons_zero, List.set_cons_succ, List.map_cons, List.map_nil, List.length_cons, List.length_nil, List.cons_append, List.nil_append, List.append_nil, and_self, and_true, true_and, if_true, if_false, decide_true, decide_false, Bool.and_self, Bool.and_true, Bool.true_and, Bool.not_true, Bool.not_false, Nat.reduceAdd, Nat.reduceSub, Nat.reduceLeDiff, Nat.reduceEqDiff, Nat.zero_add, Nat.zero_le, Int.reduceLT, Int.reduceNeg, q3']) ?_
    exact e4
  obtain ⟨s', e3, f, a5, a6, a7, a8, ws, rfl, hf, ow, wl⟩ := lp
  rw [List.length_range] at wl
  refine ⟨sortS L, ws, f, h.run hf ?_, ⟨fun a ha => nm a (sort_mem.mp ha), sort_up nd, ?_, ?_, by omega, fun p hp => ?_⟩, by rw [sortS_len]; exact LA, by omega, hf⟩
  · unfold m__law_grid
    refine (congrArg retF (show _ = some (.rt (.d (net (sortS L) ws)) [f, .l (ws.map pr)]) from seq_nx (s1 := ⟨[some (.m 0), some (.d (.int A)), some (.d (.int B)), some (.d (.list (L.map .str))), none, none, none, none, none], [f1]⟩) ?_ ?_)).trans rfl
    · show mAsg _ _ ⟨[some (.m 0), some (.d (.int A)), some (.d (.int B)), none, none, none, none, none, none], [fo]⟩ = _
      simp only [mAsg, e1, mgName, sS_eq, List.set_cons_succ, List.set_cons_zero, S.on]
    · refine seq_nx (s1 := ⟨[some (.m 0), some (.d (.int A)), some (.d (.int B)), some (.d (.list (L.map .str))), some (.m 1), none, none, none, none], [f1, .l []]⟩) (by simp only [mSeq, mPut, mOp, mVar, mC, mIfS, mTest, mTr, mNot, mAsg, mgName, mgTup, mgSeq, mgCons, mgNil, mCB, mCons, mNil, mRet, mRetN, mNext, mPar, mParO, mParOO, mLstN, mAnd, mOr, mAndV, mOrV, mNotV, mIf, mTup, mLst, mSl, mPart, mNoPart, mCall, mCallK, mCallF, mDrop, mDat, mOwn, mListN, mUn, mStar, seqD, flat_l, flat_k, refs1_l, refs1_k, refsB_nil, refsB_cons, mApp, mPop0, mChain, mIsi, mRange, mItems, mEnum, mAnyI, mYes, seqOf, frz, isiB, truD, perm, List.filterMap_cons, List.filterMap_nil, AP.S.on, vw, vws, dats, wipeS, retD, vwE, gS_eq, sS_eq, st0, List.reduceReplicate, List.getElem?_cons_zero, List.getElem?_cons_succ, List.set_cons_zero, List.set_cons_succ, List.map_cons, List.map_nil, List.length_cons, List.length_nil, List.cons_append, List.nil_append, List.append_nil, and_self, and_true, true_and, if_true, if_false, decide_true, decide_false, Bool.and_self, Bool.and_true, Bool.true_and, Bool.not_true, Bool.not_false, Nat.reduceAdd, Nat.reduceSub, Nat.reduceLeDiff, Nat.reduceEqDiff, Nat.zero_add, Nat.zero_le, Int.reduceLT, Int.reduceNeg]) (seq_nx e3 ?_)
      simp only [mSeq, mPut, mOp, mVar, mC, mIfS, mTest, mTr, mNot, mAsg, mgName, mgTup, mgSeq, mgCons, mgNil, mCB, mCons, mNil, mRet, mRetN, mNext, mPar, mParO, mParOO, mLstN, mAnd, mOr, mAndV, mOrV, mNotV, mIf, mTup, mLst, mSl, mPart, mNoPart, mCall, mCallK, mCallF, mDrop, mDat, mOwn, mListN, mUn, mStar, seqD, flat_l, flat_k, refs1_l, refs1_k, refsB_nil, refsB_cons, mApp, mPop0, mChain, mIsi, mRange, mItems, mEnum, mAnyI, mYes, seqOf, frz, isiB, truD, perm, List.filterMap_cons, List.filterMap_nil, AP.S.on, vw, vws, dats, wipeS, retD, vwE, gS_eq, sS_eq, st0, List.reduceReplicate, List.getElem?_cons_zero, List.getElem?_cons_succ, List.set_cons_zero, List.set_cons_succ, List.map_cons, List.map_nil, List.length_cons, List.length_nil, List.cons_append, List.nil_append, List.append_nil, and_self, and_true, true_and, if_true, if_false, decide_true, decide_false, Bool.and_self, Bool.and_true, Bool.true_and, Bool.not_true, Bool.not_false, Nat.reduceAdd, Nat.reduceSub, Nat.reduceLeDiff, Nat.reduceEqDiff, Nat.zero_add, Nat.zero_le, Int.reduceLT, Int.reduceNeg, sortX_strs (show L.length < 64 by omega), gTupL]
      rfl
  · intro z
    have := sortS_len L
    rw [z] at this
    simp at this
    omega
  · rw [sortS_len]; omega
  · obtain ⟨z1, z2, z3⟩ := ow p hp
    exact ⟨sort_mem.mpr z1, sort_mem.mpr z2, z3⟩
end
end
end PF2

namespace PL
noncomputable section
open PySem PySem.Spec PyProof.Rows L2 RZ AP
section
variable [Tbls] [Gd]
theorem brS_mem (ks : List Str) (x : Str) : ∀ i, x ∈ broughtS ks i ↔ x ∈ ks.take i
  | 0 => by simp [broughtS]
  | i + 1 => by
    cases h : ks[i]? with
    | none =>
      have hl : ks.length ≤ i := List.getElem?_eq_none_iff.mp h
      have e1 : ks.take (i + 1) = ks.take i := by rw [List.take_of_length_le (by omega), List.take_of_length_le hl]
      unfold broughtS
      rw [e1]
      exact brS_mem ks x i
    | some y =>
      rw [broughtS_succ h, List.take_add_one, h]
      unfold addS
      have ih := brS_mem ks x i
      split
      · rename_i hy
        rw [ih]
        simp only [Option.toList_some, List.mem_append, List.mem_singleton]
        exact ⟨.inl, fun h => h.elim id fun e => by rw [e]; exact (brS_mem ks y i).mp hy⟩
      · rw [List.mem_cons, ih]
        simp only [Option.toList_some, List.mem_append, List.mem_singleton]
        exact Or.comm
theorem brS_nd (ks : List Str) : ∀ i, (broughtS ks i).Nodup
  | 0 => by simp [broughtS]
  | i + 1 => by
    cases h : ks[i]? with
    | none =>
      have hl : ks.length ≤ i := List.getElem?_eq_none_iff.mp h
      have e1 : ks.take (i + 1) = ks.take i := by rw [List.take_of_length_le (by omega), List.take_of_length_le hl]
      unfold broughtS
      rw [e1]
      exact brS_nd ks i
    | some y =>
      rw [broughtS_succ h]
      unfold addS
      split
      · exact brS_nd ks i
      · rename_i hy
        exact List.nodup_cons.mpr ⟨hy, brS_nd ks i⟩
theorem dedS_mem {ks : List Str} {x : Str} : x ∈ dedS ks ↔ x ∈ ks := by
  unfold dedS
  rw [brS_mem, List.take_length]
theorem dedS_nd (ks : List Str) : (dedS ks).Nodup := brS_nd ks _
theorem gSSx_strs {ks : List Str} (hl : ks.length ≤ 60) : gSSx [.list (ks.map .str)] = some (.list ((sortS (dedS ks)).map .str)) := by
  have e : gSSt [.list (ks.map .str)] = some (.list ((sortS (dedS ks)).map .str)) := by
    simp only [gSSt, strsOf_map]
    rw [if_pos (Nat.ble_eq_true_of_le hl)]
  cases ks with
  | nil => rfl
  | cons x r =>
    unfold gSSx
    rw [show gSS [.list ((x :: r).map .str)] = none from rfl, e]
    rfl
theorem lc_loopS {α : Type} {g : GM} {c : TM} {e : EM} {τ : List (Option SV)} {en : α → D} {k : Nat} (Q : List MO → Prop) (R : D → Prop) : ∀ (xs : List α) (acc : List D) (o0 : List MO), o0.length = k → Q o0 → acc.length + xs.length ≤ 100000 →
    (∀ x ∈ xs, ∀ (o0 : List MO) (acc : List D), o0.length = k → Q o0 → ∃ s2 o1 v, g (.d (en x)) ⟨τ, o0 ++ [.l acc]⟩ = some s2 ∧ c s2 = some (true, o0 ++ [.l acc]) ∧ e (s2.on (o0 ++ [.l acc])) = some (.d v, o1 ++ [.l acc]) ∧ o1.length = k ∧ Q o1 ∧ R v) →
    ∃ o1 ds, lcLoop k g c e τ (xs.map en) (o0 ++ [.l acc]) = some (o1 ++ [.l (acc ++ ds)]) ∧ o1.length = k ∧ Q o1 ∧ ds.length = xs.length ∧ ∀ d ∈ ds, R d
  | [], acc, o0, hk, q, _, _ => ⟨o0, [], by simp [lcLoop], hk, q, rfl, fun _ h => absurd h (by simp)⟩
  | x :: r, acc, o0, hk, q, hl, h => by
    obtain ⟨s2, o1, v, h1, h2, h3, h4, h5, h6⟩ := h x List.mem_cons_self o0 acc hk q
    simp only [List.length_cons] at hl
    obtain ⟨o2, ds, g1, g2, g3, g4, g5⟩ := lc_loopS Q R r (acc ++ [v]) o1 h4 h5 (by simp only [List.length_append, List.length_cons, List.length_nil]; omega) fun y hy => h y (List.mem_cons_of_mem _ hy)
    refine ⟨o2, v :: ds, ?_, g2, g3, by simp [g4], fun d hd => (List.mem_cons.mp hd).elim (fun e => e ▸ h6) (g5 d)⟩
    rw [List.map_cons]
    unfold lcLoop
    rw [h1]
    dsimp only
    rw [h2]
    dsimp only
    rw [h3]
    dsimp only
    have e1 : (o1 ++ [MO.l acc])[k]? = some (.l acc) := by rw [List.getElem?_append_right (by omega), h4]; simp
    rw [e1]
    dsimp only
    rw [if_pos (show acc.length < 100000 by omega)]
    have e2 : (o1 ++ [MO.l acc]).set k (.l (acc ++ [v])) = o1 ++ [.l (acc ++ [v])] := by
      rw [List.set_append_right _ _ (by omega), h4]; simp
    rw [e2, g1, List.append_assoc]
    rfl
theorem lcS {α : Type} {im : IM} {g : GM} {e : EM} {vs : List Nat} {s : S} {o1 : List MO} (en : α → D) (xs : List α) (Q : List MO → Prop) (R : D → Prop) (hi : im s = some (xs.map en, o1)) (q : Q o1) (hl : xs.length ≤ 100000)
    (h : ∀ x ∈ xs, ∀ (o0 : List MO) (acc : List D), o0.length = o1.length → Q o0 → ∃ s2 o2 v, g (.d (en x)) ⟨wipeS s.σ vs, o0 ++ [.l acc]⟩ = some s2 ∧ s2.o = o0 ++ [.l acc] ∧ e s2 = some (.d v, o2 ++ [.l acc]) ∧ o2.length = o1.length ∧ Q o2 ∧ R v) :
    ∃ o2 ds, mLc im g mYes e vs s = some (.l ds, o2) ∧ o2.length = o1.length ∧ Q o2 ∧ ds.length = xs.length ∧ ∀ d ∈ ds, R d := by
  obtain ⟨o2, ds, h1, h2, h3, h4, h5⟩ := lc_loopS (c := mYes) (e := e) (g := g) (τ := wipeS s.σ vs) (en := en) Q R xs [] o1 rfl q (by simpa using hl) fun x hx o0 acc a b => by
    obtain ⟨⟨σ2, oo⟩, o2, v, h1, h2, h3, h4⟩ := h x hx o0 acc a b
    simp only at h2
    subst h2
    exact ⟨_, o2, v, h1, rfl, h3, h4⟩
  refine ⟨o2, ds, ?_, h2, h3, h4, h5⟩
  unfold mLc
  rw [hi]
  dsimp only
  rw [h1]
  dsimp only
  rw [List.getElem?_append_right (by omega), h2]
  simp [← h2]
theorem strs_of_all : ∀ {ds : List D} {p : Str → Prop}, (∀ d ∈ ds, ∃ x, d = .str x ∧ p x) → ∃ ks : List Str, ds = ks.map .str ∧ ks.length = ds.length ∧ ∀ x ∈ ks, p x
  | [], _, _ => ⟨[], rfl, rfl, fun _ h => absurd h (by simp)⟩
  | d :: r, p, h => by
    obtain ⟨x, rfl, hx⟩ := h d List.mem_cons_self
    obtain ⟨ks, rfl, h2, h3⟩ := strs_of_all (ds := r) (p := p) fun y hy => h y (List.mem_cons_of_mem _ hy)
    exact ⟨x :: ks, rfl, by simp, fun y hy => (List.mem_cons.mp hy).elim (fun e => e ▸ hx) (h3 y)⟩
theorem inL (a : Str) (xs : List Str) (ha : nameS a = true) (hx : ∀ x ∈ xs, nameS x = true) : gIn (.str a) (.list (xs.map .str)) = some (.bool (decide (a ∈ xs))) := by
  have h1 : shp (.list (xs.map .str)) = true := shp_of (by simp only [PyData.canLay0]; exact canLay_strs fun x h => name_ok (hx x h)) (by simp only [PyData.depth, depth_strs]; decide)
  have h2 := shp_str (name_ok ha)
  simp only [gIn, gInB, h1, h2, Bool.and_self, if_true, Option.map_some]
  congr 2
  rw [Bool.eq_iff_iff, List.any_eq_true, decide_eq_true_eq]
  constructor
  · rintro ⟨z, hz, e⟩
    obtain ⟨y, hy, rfl⟩ := List.mem_map.mp hz
    rw [eqv_str, beq_iff_eq] at e
    exact e ▸ hy
  · intro h
    exact ⟨_, List.mem_map.mpr ⟨a, h, rfl⟩, by rw [eqv_str]; simp⟩
theorem notInL (a : Str) (xs : List Str) (ha : nameS a = true) (hx : ∀ x ∈ xs, nameS x = true) : gNotIn (.str a) (.list (xs.map .str)) = some (.bool (!decide (a ∈ xs))) := by
  have := inL a xs ha hx
  simp only [gIn, Option.map_eq_some_iff] at this
  obtain ⟨x, h1, h2⟩ := this
  cases h2
  simp only [gNotIn, h1, Option.map_some]
end
end
end PL
namespace PF2
noncomputable section
open PySem PySem.Spec PyProof.Rows L2 RZ AP PL
section
variable [Tbls] [Gd]
theorem any_nat {k : DC2} (hk : k.ok = true) {fo : MO} (h : FeedOk fo) {L : List Nat} (h0 : L ≠ []) (h1 : L.length < 1000000) : ∃ (x : Nat) (fo' : MO), runF 2 (m__law_any k) fo [.list (L.map nI)] = some (.int (x : Int), fo') ∧ x ∈ L ∧ FeedOk fo' := by
  obtain ⟨x, f, e, hx, hf⟩ := any_l hk h (L := L.map nI) (by simpa using h0) (by simpa using h1)
  obtain ⟨n, hn, rfl⟩ := List.mem_map.mp hx
  exact ⟨n, f, e, hn, hf⟩
theorem any_str {k : DC2} (hk : k.ok = true) {fo : MO} (h : FeedOk fo) {L : List Str} (h0 : L ≠ []) (h1 : L.length < 1000000) : ∃ (x : Str) (fo' : MO), runF 2 (m__law_any k) fo [T L] = some (.str x, fo') ∧ x ∈ L ∧ FeedOk fo' := by
  obtain ⟨x, f, e, hx, hf⟩ := any_t hk h (L := L.map .str) (by simpa using h0) (by simpa using h1)
  obtain ⟨n, hn, rfl⟩ := List.mem_map.mp hx
  exact ⟨n, f, e, hn, hf⟩
def rep4 (M : Nat) : List Nat := (List.replicate 4 ((List.range M).map (· + 1))).flatten
def cntL (M : Nat) : List Nat := 0 :: rep4 M
theorem cntL_le {M x : Nat} (h : x ∈ cntL M) : x ≤ M := by
  rcases List.mem_cons.mp h with e | h
  · omega
  · obtain ⟨l, hl, hx⟩ := List.mem_flatten.mp h
    rw [List.eq_of_mem_replicate hl] at hx
    obtain ⟨y, hy, rfl⟩ := List.mem_map.mp hx
    have := List.mem_range.mp hy
    omega
theorem stock {k : DC2} (hk : k.ok = true) {fo : MO} (h : FeedOk fo) {hs : List Str} {ws : List Wr} (g : OkN hs ws) (h6 : hs.length ≤ 60) {M : Nat} (hM : M ≤ 100) :
    ∃ (hd : List (List Str)) (fo' : MO), runF 7 (m__law_stock k) fo [net hs ws, .int (M : Int)] = some (HL hd, fo') ∧ OkH hs ws hd ∧ hd.length ≤ M ∧ FeedOk fo' := by
  have ne := g.ne
  have hl := g.hl
  -- how many pieces
  have cnt : ∃ (n : Nat) (f2 : MO), FeedOk f2 ∧ n ≤ M ∧ mRange (mCons (mCallF 2 (runF 2 (m__law_any k)) (mCons (mVar 0) (mCons (mOp gAddU (mLst (mCons (mC (.int 0)) mNil)) (mOp gMulU (mLstRg2 (mC (.int 1)) (mOp gAddU (mVar 2) (mC (.int 1)))) (mC (.int 4)))) mNil))) mNil)
      ⟨[some (.m 0), some (.d (net hs ws)), some (.d (.int M)), some (.m 1), none, none, none], [fo, .l []]⟩ = some ((List.range n).map nI, [f2, .l []]) := by
    obtain ⟨n, f2, e, hn, h2⟩ := any_nat hk h (L := cntL M) (by simp [cntL]) (by
      unfold cntL rep4
      simp only [List.length_cons, List.length_flatten, List.map_replicate, List.length_map, List.length_range, List.sum_replicate_nat]
      omega)
    refine ⟨n, f2, h2, cntL_le hn, mRange_nat n (by have := cntL_le hn; omega) _ _ _ ?_⟩
    have e1 : rngD 1 ((M : Int) + 1) = ((List.range M).map (· + 1)).map nI := by
      unfold rngD
      rw [show ((M : Int) + 1 - 1).toNat = M by omega, List.map_map]
      apply List.map_congr_left
      intro i _
      show PyData.int (1 + (i : Int)) = PyData.int (((i + 1 : Nat)) : Int)
      congr 1
      omega
    have e2 : gMulU (.list (rngD 1 ((M : Int) + 1))) (.int 4) = some (.list ((rep4 M).map nI)) := by
      have lr : (rngD 1 ((M : Int) + 1)).length = M := by rw [e1]; simp
      unfold gMulU gRep
      simp only [gMul, g2I, oel]
      rw [if_pos (by rw [lr]; refine ⟨by decide, by decide, ?_⟩; show M * 4 ≤ _; omega), e1]
      congr 2
      unfold rep4
      rw [List.map_flatten, List.map_replicate]
      rfl
    have e3 : gAddU (.list [.int 0]) (.list ((rep4 M).map nI)) = some (.list ((cntL M).map nI)) := by
      unfold gAddU
      simp only [g2I, oel, gAddS, g2S, gAddL]
      rw [if_pos (by
        unfold rep4
        simp only [List.length_map, List.length_flatten, List.map_replicate, List.length_map, List.length_range, List.sum_replicate_nat, List.length_cons, List.length_nil]
        omega)]
      rfl
    have ok : okRg 1 ((M : Int) + 1) = true := by simp [okRg]; omega
    simp only [mSeq, mPut, mOp, mVar, mC, mIfS, mTest, mTr, mNot, mAsg, mgName, mgTup, mgSeq, mgCons, mgNil, mCB, mCons, mNil, mRet, mRetN, mNext, mPar, mParO, mParOO, mLstN, mAnd, mOr, mAndV, mOrV, mNotV, mIf, mTup, mLst, mSl, mPart, mNoPart, mCall, mCallK, mCallF, mDrop, mDat, mOwn, mListN, mUn, mStar, seqD, flat_l, flat_k, refs1_l, refs1_k, refsB_nil, refsB_cons, mApp, mPop0, mChain, mIsi, mRange, mItems, mEnum, mAnyI, mYes, seqOf, frz, isiB, truD, perm, List.filterMap_cons, List.filterMap_nil, AP.S.on, vw, vws, dats, wipeS, retD, vwE, gS_eq, sS_eq, st0, List.reduceReplicate, List.getElem?_cons_zero, List.getElem?_cons_succ, List.set_cons_zero, List.set_cons_succ, List.map_cons, List.map_nil, List.length_cons, List.length_nil, List.cons_append, List.nil_append, List.append_nil, and_self, and_true, true_and, if_true, if_false, decide_true, decide_false, Bool.and_self, Bool.and_true, Bool.true_and, Bool.not_true, Bool.not_false, Nat.reduceAdd, Nat.reduceSub, Nat.reduceLeDiff, Nat.reduceEqDiff, Nat.zero_add, Nat.zero_le, Int.reduceLT, Int.reduceNeg, mLstRg2, gAddI, ok, e2, e3, e]
  obtain ⟨n, f2, h2, nM, e2⟩ := cnt
  have lp : ∃ s', fl__law_stock_3 k ⟨[some (.m 0), some (.d (net hs ws)), some (.d (.int M)), some (.m 1), none, none, none], [fo, .l []]⟩ = some (.nx s') ∧
      ∃ (f : MO) (a4 a5 a6 : Option SV) (hd : List (List Str)), s' = (⟨[some (.m 0), some (.d (net hs ws)), some (.d (.int M)), some (.m 1), a4, a5, a6], [f, .l (hd.map T)]⟩ : S) ∧ FeedOk f ∧ (∀ h ∈ hd, h ≠ [] ∧ h.Pairwise ltS ∧ ∀ a ∈ h, a ∈ hs) ∧ hd.length = (List.range n).length := by
    unfold fl__law_stock_3
    refine forT nI (List.range n) (fun i s => ∃ (f : MO) (a4 a5 a6 : Option SV) (hd : List (List Str)), s = (⟨[some (.m 0), some (.d (net hs ws)), some (.d (.int M)), some (.m 1), a4, a5, a6], [f, .l (hd.map T)]⟩ : S) ∧ FeedOk f ∧ (∀ h ∈ hd, h ≠ [] ∧ h.Pairwise ltS ∧ ∀ a ∈ h, a ∈ hs) ∧ hd.length = i)
      e2 ⟨f2, none, none, none, [], rfl, h2, (fun p hp => by simp at hp), rfl⟩ ?_
    rintro i x s hi ⟨f, a4, a5, a6, hd, rfl, hf, ho, wl⟩
    have hin : i < n := by
      have := (List.getElem?_eq_some_iff.mp hi).1
      simpa using this
    obtain ⟨c, f3, q3, hc, h3⟩ := any_nat hk hf (L := [1, 1, 1, 2, 3]) (by simp) (by simp)
    have hc3 : 1 ≤ c ∧ c ≤ 3 := by simp at hc; omega
    have q3' : runF 2 (m__law_any k) f [.list [.int 1, .int 1, .int 1, .int 2, .int 3]] = some (.int (c : Int), f3) := q3
    have ml : ∀ s : S, ml__law_stock_0 s = some (.d (.list [.int 1, .int 1, .int 1, .int 2, .int 3]), s.o) := fun s => by unfold ml__law_stock_0; rfl
    have lc : ∃ o2 ds, lc__law_stock_1 k ⟨[some (.m 0), some (.d (net hs ws)), some (.d (.int M)), some (.m 1), some (.d (nI x)), a5, a6], [f, .l (hd.map T)]⟩ = some (.l ds, o2) ∧ o2.length = 2 ∧ (∃ f4, FeedOk f4 ∧ o2 = [f4, .l (hd.map T)]) ∧ ds.length = (List.range c).length ∧ ∀ d ∈ ds, ∃ z, d = .str z ∧ z ∈ hs := by
      unfold lc__law_stock_1
      refine lcS (o1 := [f3, .l (hd.map T)]) nI (List.range c) (fun o => ∃ f4, FeedOk f4 ∧ o = [f4, .l (hd.map T)]) (fun d => ∃ z, d = .str z ∧ z ∈ hs) (mRange_nat c (by omega) _ _ _ (by simp only [mSeq, mPut, mOp, mVar, mC, mIfS, mTest, mTr, mNot, mAsg, mgName, mgTup, mgSeq, mgCons, mgNil, mCB, mCons, mNil, mRet, mRetN, mNext, mPar, mParO, mParOO, mLstN, mAnd, mOr, mAndV, mOrV, mNotV, mIf, mTup, mLst, mSl, mPart, mNoPart, mCall, mCallK, mCallF, mDrop, mDat, mOwn, mListN, mUn, mStar, seqD, flat_l, flat_k, refs1_l, refs1_k, refsB_nil, refsB_cons, mApp, mPop0, mChain, mIsi, mRange, mItems, mEnum, mAnyI, mYes, seqOf, frz, isiB, truD, perm, List.filterMap_cons, List.filterMap_nil, AP.S.on, vw, vws, dats, wipeS, retD, vwE, gS_eq, sS_eq, st0, List.reduceReplicate, List.getElem?_cons_zero, List.getElem?_cons_succ, List.set_cons_zero, List.set_cons_succ, List.map_cons, List.map_nil, List.length_cons, List.length_nil, List.cons_append, List.nil_append, List.append_nil, and_self, and_true, true_and, if_true, if_false, decide_true, decide_false, Bool.and_self, Bool.and_true, Bool.true_and, Bool.not_true, Bool.not_false, Nat.reduceAdd, Nat.reduceSub, Nat.reduceLeDiff, Nat.reduceEqDiff, Nat.zero_add, Nat.zero_le, Int.reduceLT, Int.reduceNeg, ml, q3'])) ⟨f3, h3, rfl⟩ (by simp; omega) ?_
      rintro y hy o0 acc _ ⟨f4, h4, rfl⟩
      obtain ⟨z, f5, q5, hz, h5⟩ := any_str hk h4 (L := hs) ne (by omega)
      refine ⟨_, [f5, .l (hd.map T)], .str z, rfl, rfl, ?_, rfl, ⟨f5, h5, rfl⟩, z, rfl, hz⟩
      have en : gIx (net hs ws) (.int 0) = some (T hs) := gIx0 _ _
      simp only [mSeq, mPut, mOp, mVar, mC, mIfS, mTest, mTr, mNot, mAsg, mgName, mgTup, mgSeq, mgCons, mgNil, mCB, mCons, mNil, mRet, mRetN, mNext, mPar, mParO, mParOO, mLstN, mAnd, mOr, mAndV, mOrV, mNotV, mIf, mTup, mLst, mSl, mPart, mNoPart, mCall, mCallK, mCallF, mDrop, mDat, mOwn, mListN, mUn, mStar, seqD, flat_l, flat_k, refs1_l, refs1_k, refsB_nil, refsB_cons, mApp, mPop0, mChain, mIsi, mRange, mItems, mEnum, mAnyI, mYes, seqOf, frz, isiB, truD, perm, List.filterMap_cons, List.filterMap_nil, AP.S.on, vw, vws, dats, wipeS, retD, vwE, gS_eq, sS_eq, st0, List.reduceReplicate, List.getElem?_cons_zero, List.getElem?_cons_succ, List.set_cons_zero, List.set_cons_succ, List.map_cons, List.map_nil, List.length_cons, List.length_nil, List.cons_append, List.nil_append, List.append_nil, and_self, and_true, true_and, if_true, if_false, decide_true, decide_false, Bool.and_self, Bool.and_true, Bool.true_and, Bool.not_true, Bool.not_false, Nat.reduceAdd, Nat.reduceSub, Nat.reduceLeDiff, Nat.reduceEqDiff, Nat.zero_add, Nat.zero_le, Int.reduceLT, Int.reduceNeg, en, q5]
    obtain ⟨o2, ds, e3, _, ⟨f4, h4, rfl⟩, dl, dh⟩ := lc
    obtain ⟨ks, rfl, kl, kh⟩ := strs_of_all dh
    rw [List.length_map, List.length_range] at dl
    have k0 : ks ≠ [] := fun e => by rw [e] at dl; simp at dl; omega
    refine ⟨_, ⟨[some (.m 0), some (.d (net hs ws)), some (.d (.int M)), some (.m 1), some (.d (nI x)), some (.d (.list (ks.map .str))), a6], [f4, .l ((hd ++ [sortS (dedS ks)]).map T)]⟩, rfl, .inl ?_, f4, some (.d (nI x)), some (.d (.list (ks.map .str))), a6, hd ++ [sortS (dedS ks)], rfl, h4, ?_, by simp [wl]⟩
    · unfold fb__law_stock_2
      have wl2 : hd.length < 100000 := by omega
      simp only [mSeq, mPut, mOp, mVar, mC, mIfS, mTest, mTr, mNot, mAsg, mgName, mgTup, mgSeq, mgCons, mgNil, mCB, mCons, mNil, mRet, mRetN, mNext, mPar, mParO, mParOO, mLstN, mAnd, mOr, mAndV, mOrV, mNotV, mIf, mTup, mLst, mSl, mPart, mNoPart, mCall, mCallK, mCallF, mDrop, mDat, mOwn, mListN, mUn, mStar, seqD, flat_l, flat_k, refs1_l, refs1_k, refsB_nil, refsB_cons, mApp, mPop0, mChain, mIsi, mRange, mItems, mEnum, mAnyI, mYes, seqOf, frz, isiB, truD, perm, List.filterMap_cons, List.filterMap_nil, AP.S.on, vw, vws, dats, wipeS, retD, vwE, gS_eq, sS_eq, st0, List.reduceReplicate, List.getElem?_cons_zero, List.getElem?_cons_succ, List.set_cons_zero, List.set_cons_succ, List.map_cons, List.map_nil, List.length_cons, List.length_nil, List.cons_append, List.nil_append, List.append_nil, and_self, and_true, true_and, if_true, if_false, decide_true, decide_false, Bool.and_self, Bool.and_true, Bool.true_and, Bool.not_true, Bool.not_false, Nat.reduceAdd, Nat.reduceSub, Nat.reduceLeDiff, Nat.reduceEqDiff, Nat.zero_add, Nat.zero_le, Int.reduceLT, Int.reduceNeg, e3, h4.rf, gSSx_strs (show ks.length ≤ 60 by omega), gTupL, List.length_map, wl2, List.map_append]
      rfl
    · intro q hq
      rcases List.mem_append.mp hq with z | z
      · exact ho q z
      · rw [List.mem_singleton.mp z]
        refine ⟨fun e => ?_, sort_up (dedS_nd ks), fun a ha => kh a (dedS_mem.mp (sort_mem.mp ha))⟩
        obtain ⟨y, hy⟩ := List.exists_mem_of_ne_nil ks k0
        have := sort_mem.mpr (dedS_mem.mpr hy)
        rw [e] at this
        cases this
  obtain ⟨s', e3, f, a4, a5, a6, hd, rfl, hf, ho, wl⟩ := lp
  rw [List.length_range] at wl
  refine ⟨hd, f, h.run hf ?_, ⟨g, h6, by omega, fun h hm => (ho h hm).1, fun h hm => (ho h hm).2.1, fun h hm => (ho h hm).2.2⟩, by omega, hf⟩
  unfold m__law_stock
  refine (congrArg retF (show _ = some (.rt (.d (HL hd)) [f, .l (hd.map T)]) from seq_nx (s1 := ⟨[some (.m 0), some (.d (net hs ws)), some (.d (.int M)), some (.m 1), none, none, none], [fo, .l []]⟩) (by simp only [mSeq, mPut, mOp, mVar, mC, mIfS, mTest, mTr, mNot, mAsg, mgName, mgTup, mgSeq, mgCons, mgNil, mCB, mCons, mNil, mRet, mRetN, mNext, mPar, mParO, mParOO, mLstN, mAnd, mOr, mAndV, mOrV, mNotV, mIf, mTup, mLst, mSl, mPart, mNoPart, mCall, mCallK, mCallF, mDrop, mDat, mOwn, mListN, mUn, mStar, seqD, flat_l, flat_k, refs1_l, refs1_k, refsB_nil, refsB_cons, mApp, mPop0, mChain, mIsi, mRange, mItems, mEnum, mAnyI, mYes, seqOf, frz, isiB, truD, perm, List.filterMap_cons, List.filterMap_nil, AP.S.on, vw, vws, dats, wipeS, retD, vwE, gS_eq, sS_eq, st0, List.reduceReplicate, List.getElem?_cons_zero, List.getElem?_cons_succ, List.set_cons_zero, List.set_cons_succ, List.map_cons, List.map_nil, List.length_cons, List.length_nil, List.cons_append, List.nil_append, List.append_nil, and_self, and_true, true_and, if_true, if_false, decide_true, decide_false, Bool.and_self, Bool.and_true, Bool.true_and, Bool.not_true, Bool.not_false, Nat.reduceAdd, Nat.reduceSub, Nat.reduceLeDiff, Nat.reduceEqDiff, Nat.zero_add, Nat.zero_le, Int.reduceLT, Int.reduceNeg]) (seq_nx e3 ?_))).trans rfl
  simp only [mSeq, mPut, mOp, mVar, mC, mIfS, mTest, mTr, mNot, mAsg, mgName, mgTup, mgSeq, mgCons, mgNil, mCB, mCons, mNil, mRet, mRetN, mNext, mPar, mParO, mParOO, mLstN, mAnd, mOr, mAndV, mOrV, mNotV, mIf, mTup, mLst, mSl, mPart, mNoPart, mCall, mCallK, mCallF, mDrop, mDat, mOwn, mListN, mUn, mStar, seqD, flat_l, flat_k, refs1_l, refs1_k, refsB_nil, refsB_cons, mApp, mPop0, mChain, mIsi, mRange, mItems, mEnum, mAnyI, mYes, seqOf, frz, isiB, truD, perm, List.filterMap_cons, List.filterMap_nil, AP.S.on, vw, vws, dats, wipeS, retD, vwE, gS_eq, sS_eq, st0, List.reduceReplicate, List.getElem?_cons_zero, List.getElem?_cons_succ, List.set_cons_zero, List.set_cons_succ, List.map_cons, List.map_nil, List.length_cons, List.length_nil, List.cons_append, List.nil_append, List.append_nil, and_self, and_true, true_and, if_true, if_false, decide_true, decide_false, Bool.and_self, Bool.and_true, Bool.true_and, Bool.not_true, Bool.not_false, Nat.reduceAdd, Nat.reduceSub, Nat.reduceLeDiff, Nat.reduceEqDiff, Nat.zero_add, Nat.zero_le, Int.reduceLT, Int.reduceNeg, gTupL]
end
end
end PF2

namespace PL
noncomputable section
open PySem PySem.Spec PyProof.Rows L2 RZ AP
section
variable [Tbls] [Gd]
theorem up_ext : ∀ {xs ys : List Str}, xs.Pairwise ltS → ys.Pairwise ltS → (∀ x, x ∈ xs ↔ x ∈ ys) → xs = ys
  | [], [], _, _, _ => rfl
  | [], y :: ys, _, _, h => absurd ((h y).mpr List.mem_cons_self) (by simp)
  | x :: xs, [], _, _, h => absurd ((h x).mp List.mem_cons_self) (by simp)
  | x :: xs, y :: ys, h1, h2, h => by
    obtain ⟨a1, a2⟩ := List.pairwise_cons.mp h1
    obtain ⟨b1, b2⟩ := List.pairwise_cons.mp h2
    have e : x = y := by
      rcases List.mem_cons.mp ((h x).mp List.mem_cons_self) with e | hx
      · exact e
      rcases List.mem_cons.mp ((h y).mpr List.mem_cons_self) with e | hy
      · exact e.symm
      exact absurd (List.lt_trans (a1 y hy) (b1 x hx)) (ltS_irr (x := x))
    subst e
    congr 1
    refine up_ext a2 b2 fun z => ⟨fun hz => ?_, fun hz => ?_⟩
    · rcases List.mem_cons.mp ((h z).mp (List.mem_cons_of_mem _ hz)) with e | h
      · exact absurd (e ▸ a1 z hz) ltS_irr
      · exact h
    · rcases List.mem_cons.mp ((h z).mpr (List.mem_cons_of_mem _ hz)) with e | h
      · exact absurd (e ▸ b1 z hz) ltS_irr
      · exact h
def ownS (gv : List Int) (p : Nat) (own : List Str) (q : Wr × Nat) : List Str := if gv[q.2]? = some (p : Int) ∧ q.1.1 ∈ own ∧ q.1.2 ∉ own then own ++ [q.1.2] else own
def lapS (ws : List Wr) (gv : List Int) (p : Nat) (own : List Str) : List Str := ws.zipIdx.foldl (ownS gv p) own
def lapsS (ws : List Wr) (gv : List Int) (p : Nat) (n : Nat) (held : List Str) : List Str := (List.range n).foldl (fun own _ => lapS ws gv p own) held
theorem laps_succ (ws : List Wr) (gv : List Int) (p : Nat) (n : Nat) (held : List Str) : lapsS ws gv p (n + 1) held = lapS ws gv p (lapsS ws gv p n held) := by
  unfold lapsS
  rw [List.range_succ, List.foldl_append]
  rfl
theorem own_fold {ws : List Wr} {held : List Str} {gv : List Int} {p : Nat} : ∀ (l : List (Wr × Nat)) (own : List Str), (∀ q ∈ l, ws[q.2]? = some q.1) → own.Nodup → (∀ x ∈ own, Reach ws held gv p x) →
    (l.foldl (ownS gv p) own).Nodup ∧ (∀ x ∈ l.foldl (ownS gv p) own, Reach ws held gv p x) ∧ (∀ x ∈ own, x ∈ l.foldl (ownS gv p) own) ∧ own.length ≤ (l.foldl (ownS gv p) own).length ∧
      ((l.foldl (ownS gv p) own).length = own.length → ∀ q ∈ l, gv[q.2]? = some (p : Int) → q.1.1 ∈ own → q.1.2 ∈ own)
  | [], own, _, nd, hr => ⟨nd, hr, fun _ h => h, Nat.le_refl _, fun _ q h => absurd h (by simp)⟩
  | q :: r, own, hl, nd, hr => by
    rw [List.foldl_cons]
    by_cases c : gv[q.2]? = some (p : Int) ∧ q.1.1 ∈ own ∧ q.1.2 ∉ own
    · have e : ownS gv p own q = own ++ [q.1.2] := if_pos c
      rw [e]
      have hr2 : ∀ x ∈ own ++ [q.1.2], Reach ws held gv p x := fun x hx => (List.mem_append.mp hx).elim (hr x) fun h => by
        rw [List.mem_singleton.mp h]
        exact .by_ (hr _ c.2.1) (hl q List.mem_cons_self) c.1
      have nd2 : (own ++ [q.1.2]).Nodup := List.nodup_append.mpr ⟨nd, by simp, fun x hx y hy e => by rw [List.mem_singleton.mp hy] at e; exact c.2.2 (e ▸ hx)⟩
      obtain ⟨i1, i2, i3, i4, i5⟩ := own_fold r (own ++ [q.1.2]) (fun x hx => hl x (List.mem_cons_of_mem _ hx)) nd2 hr2
      rw [List.length_append, List.length_cons, List.length_nil] at i4
      exact ⟨i1, i2, fun x hx => i3 x (List.mem_append_left _ hx), by omega, fun h => by omega⟩
    · have e : ownS gv p own q = own := if_neg c
      rw [e]
      obtain ⟨i1, i2, i3, i4, i5⟩ := own_fold r own (fun x hx => hl x (List.mem_cons_of_mem _ hx)) nd hr
      refine ⟨i1, i2, i3, i4, fun h x hx h1 h2 => ?_⟩
      rcases List.mem_cons.mp hx with e | hx
      · subst e
        by_cases h3 : x.1.2 ∈ own
        · exact h3
        · exact absurd ⟨h1, h2, h3⟩ c
      · exact i5 h x hx h1 h2
theorem laps_ok {ws : List Wr} {held : List Str} {gv : List Int} {p : Nat} (nd : held.Nodup) : ∀ n, (lapsS ws gv p n held).Nodup ∧ (∀ x ∈ lapsS ws gv p n held, Reach ws held gv p x) ∧ (∀ x ∈ held, x ∈ lapsS ws gv p n held) ∧
    ((∀ x, Reach ws held gv p x → x ∈ lapsS ws gv p n held) ∨ held.length + n ≤ (lapsS ws gv p n held).length)
  | 0 => ⟨nd, fun x h => .at_ h, fun _ h => h, .inr (Nat.le_refl _)⟩
  | n + 1 => by
    obtain ⟨i1, i2, i3, i4⟩ := laps_ok nd n
    rw [laps_succ]
    generalize lapsS ws gv p n held = z at i1 i2 i3 i4 ⊢
    obtain ⟨j1, j2, j3, j4, j5⟩ := own_fold (gv := gv) (p := p) ws.zipIdx z (fun q hq => List.mem_zipIdx_iff_getElem?.mp hq) i1 i2
    refine ⟨j1, j2, fun x hx => j3 x (i3 x hx), ?_⟩
    rcases i4 with i4 | i4
    · exact .inl fun x hx => j3 x (i4 x hx)
    · by_cases c : (ws.zipIdx.foldl (ownS gv p) z).length = z.length
      · refine .inl fun x hx => j3 x ?_
        induction hx with
        | at_ ha => exact i3 _ ha
        | @by_ k a b _ h1 h2 ih => exact j5 c ((a, b), k) (List.mem_zipIdx_iff_getElem?.mpr h1) h2 ih
      · unfold lapS
        exact .inr (by omega)
theorem reach_sub {ws : List Wr} {held hs : List Str} {gv : List Int} {p : Int} (wk : okW hs ws) (sub : ∀ a ∈ held, a ∈ hs) {x : Str} (h : Reach ws held gv p x) : x ∈ hs := by
  induction h with
  | at_ ha => exact sub _ ha
  | by_ _ h1 _ _ => exact (wk _ (List.mem_of_getElem? h1)).2.1
theorem laps_iff {ws : List Wr} {held hs : List Str} {gv : List Int} {p : Nat} (wk : okW hs ws) (nd : held.Nodup) (ne : held ≠ []) (sub : ∀ a ∈ held, a ∈ hs) (x : Str) : x ∈ lapsS ws gv p hs.length held ↔ Reach ws held gv p x := by
  obtain ⟨i1, i2, _, i4⟩ := laps_ok (ws := ws) (gv := gv) (p := p) nd hs.length
  refine ⟨i2 x, fun h => ?_⟩
  rcases i4 with i4 | i4
  · exact i4 x h
  · have := nd_le i1 fun y hy => reach_sub wk sub (i2 y hy)
    have := List.length_pos_iff.mpr ne
    omega
theorem laps_sort {hs : List Str} {ws : List Wr} {held : List Str} {gv : List Int} {p : Nat} (wk : okW hs ws) (nd : held.Nodup) (ne : held ≠ []) (sub : ∀ a ∈ held, a ∈ hs) (hl : hs.length ≤ 100) :
    sortS (dedS (lapsS ws gv p hs.length held)) = sortS (keys (comersF ws held gv p)) := by
  refine up_ext (sort_up (dedS_nd _)) (sort_up (comersF_ok wk nd sub hl).1.nd) fun x => ?_
  rw [sort_mem, dedS_mem, sort_mem, comers_iff wk nd sub hl, laps_iff wk nd ne sub]
end
end
end PL
namespace PF2
noncomputable section
open PySem PySem.Spec PyProof.Rows L2 RZ AP PL
section
variable [Tbls] [Gd]
def IxP (P : D) (gv : List Int) : Prop := ∀ i : Nat, gIx P (.int (i : Int)) = (gv.map PyData.int)[i]?
theorem ixP_T (gv : List Int) : IxP (IT gv) gv := fun i => gIxT _ i
theorem ixP_L (gv : List Int) : IxP (.list (gv.map .int)) gv := fun i => gIxL _ i
variable {hs : List Str} {ws : List Wr} {hd : List (List Str)} {gv : List Int} {P : D}
abbrev stH (hs : List Str) (ws : List Wr) (hd : List (List Str)) (P : D) (F : List D) (olds : List MO) (own : List Str) (p : Nat) (first : D) (a7 a8 a9 : Option SV) : S :=
  ⟨[some (.d (net hs ws)), some (.d (HL hd)), some (.d P), some (.m 0), some (.d (nI p)), some (.d first), some (.m (olds.length + 1)), a7, a8, a9], .l F :: (olds ++ [.l (own.map .str)])⟩
structure OwnOk (hs : List Str) (own : List Str) : Prop where
  nd : own.Nodup
  sub : ∀ x ∈ own, x ∈ hs
theorem ownS_ok {own : List Str} (o : OwnOk hs own) {q : Wr × Nat} (hq : q.1.2 ∈ hs) {p : Nat} : OwnOk hs (ownS gv p own q) := by
  unfold ownS
  split
  · rename_i c
    refine ⟨List.nodup_append.mpr ⟨o.nd, by simp, fun x hx y hy e => by rw [List.mem_singleton.mp hy] at e; exact c.2.2 (e ▸ hx)⟩, fun x hx => ?_⟩
    rcases List.mem_append.mp hx with h | h
    · exact o.sub x h
    · rw [List.mem_singleton.mp h]; exact hq
  · exact o
theorem lap_ev (g : OkN hs ws) (h6 : hs.length ≤ 60) (hP : IxP P gv) (hl : gv.length = ws.length) {F : List D} {olds : List MO} {own : List Str} (o : OwnOk hs own) {p : Nat} {first : D} {a7 a8 a9 : Option SV} :
    ∃ s', fl__law_has_1 (stH hs ws hd P F olds own p first a7 a8 a9) = some (.nx s') ∧ ∃ b8 b9, s' = stH hs ws hd P F olds (lapS ws gv p own) p first a7 b8 b9 ∧ OwnOk hs (lapS ws gv p own) := by
  unfold fl__law_has_1
  refine forF (fun q : Wr × Nat => PyData.tuple [.int (q.2 : Nat), pr q.1]) ws.zipIdx (fun own s => ∃ b8 b9, s = stH hs ws hd P F olds own p first a7 b8 b9 ∧ OwnOk hs own) (ownS gv p) own (by
    simp only [mSeq, mPut, mOp, mVar, mC, mIfS, mTest, mTr, mNot, mAsg, mgName, mgTup, mgSeq, mgCons, mgNil, mCB, mCons, mNil, mRet, mRetN, mNext, mPar, mParO, mParOO, mLstN, mAnd, mOr, mAndV, mOrV, mNotV, mIf, mTup, mLst, mSl, mPart, mNoPart, mCall, mCallK, mCallF, mDrop, mDat, mOwn, mListN, mUn, mStar, seqD, flat_l, flat_k, refs1_l, refs1_k, refsB_nil, refsB_cons, mApp, mPop0, mChain, mIsi, mRange, mItems, mEnum, mAnyI, mYes, seqOf, frz, isiB, truD, perm, List.filterMap_cons, List.filterMap_nil, AP.S.on, vw, vws, dats, wipeS, retD, vwE, gS_eq, sS_eq, st0, List.reduceReplicate, List.getElem?_cons_zero, List.getElem?_cons_succ, List.set_cons_zero, List.set_cons_succ, List.map_cons, List.map_nil, List.length_cons, List.length_nil, List.cons_append, List.nil_append, List.append_nil, and_self, and_true, true_and, if_true, if_false, decide_true, decide_false, Bool.and_self, Bool.and_true, Bool.true_and, Bool.not_true, Bool.not_false, Nat.reduceAdd, Nat.reduceSub, Nat.reduceLeDiff, Nat.reduceEqDiff, Nat.zero_add, Nat.zero_le, Int.reduceLT, Int.reduceNeg, stH, net, W, gIx1, enum0]) ⟨a8, a9, rfl, o⟩ ?_
  rintro ⟨⟨a, b⟩, i⟩ hx own s ⟨b8, b9, rfl, o⟩
  have hi := List.mem_zipIdx_iff_getElem?.mp hx
  simp only at hi
  obtain ⟨ha, hb, ne⟩ := g.wk _ (List.mem_of_getElem? hi)
  have il : i < gv.length := by rw [hl]; exact (List.getElem?_eq_some_iff.mp hi).1
  have eP : gIx P (.int (i : Int)) = some (.int gv[i]) := by rw [hP, List.getElem?_map, List.getElem?_eq_getElem il]; rfl
  have ol : own.length < 100000 := by have := nd_le o.nd o.sub; omega
  have eA : ∀ y : MO, (olds ++ [y])[olds.length]? = some y := fun y => by rw [List.getElem?_append_right (Nat.le_refl _)]; simp
  have eS : ∀ y z : MO, (olds ++ [y]).set olds.length z = olds ++ [z] := fun y z => by rw [List.set_append_right _ _ (Nat.le_refl _)]; simp
  have nms : ∀ x ∈ own, nameS x = true := fun x hx => g.nm x (o.sub x hx)
  refine ⟨_, stH hs ws hd P F olds (ownS gv p own ((a, b), i)) p first a7 (some (.d (nI i))) (some (.d (pr (a, b)))), rfl, .inl ?_, _, _, rfl, ownS_ok o hb⟩
  unfold fb__law_has_0
  by_cases c1 : gv[i] = (p : Int)
  · by_cases c2 : a ∈ own
    · by_cases c3 : b ∈ own
      · have e : ownS gv p own ((a, b), i) = own := if_neg fun c => c.2.2 c3
        rw [e]
        simp only [mSeq, mPut, mOp, mVar, mC, mIfS, mTest, mTr, mNot, mAsg, mgName, mgTup, mgSeq, mgCons, mgNil, mCB, mCons, mNil, mRet, mRetN, mNext, mPar, mParO, mParOO, mLstN, mAnd, mOr, mAndV, mOrV, mNotV, mIf, mTup, mLst, mSl, mPart, mNoPart, mCall, mCallK, mCallF, mDrop, mDat, mOwn, mListN, mUn, mStar, seqD, flat_l, flat_k, refs1_l, refs1_k, refsB_nil, refsB_cons, mApp, mPop0, mChain, mIsi, mRange, mItems, mEnum, mAnyI, mYes, seqOf, frz, isiB, truD, perm, List.filterMap_cons, List.filterMap_nil, AP.S.on, vw, vws, dats, wipeS, retD, vwE, gS_eq, sS_eq, st0, List.reduceReplicate, List.getElem?_cons_zero, List.getElem?_cons_succ, List.set_cons_zero, List.set_cons_succ, List.map_cons, List.map_nil, List.length_cons, List.length_nil, List.cons_append, List.nil_append, List.append_nil, and_self, and_true, true_and, if_true, if_false, decide_true, decide_false, Bool.and_self, Bool.and_true, Bool.true_and, Bool.not_true, Bool.not_false, Nat.reduceAdd, Nat.reduceSub, Nat.reduceLeDiff, Nat.reduceEqDiff, Nat.zero_add, Nat.zero_le, Int.reduceLT, Int.reduceNeg, eP, PL.gEqI, c1, beq_self_eq_true, pr, gIx0, gIx1, eA, inL a own (g.nm a ha) nms, notInL b own (g.nm b hb) nms, decide_eq_true c2, decide_eq_true c3]
      · have e : ownS gv p own ((a, b), i) = own ++ [b] := if_pos ⟨by rw [List.getElem?_eq_getElem il, c1], c2, c3⟩
        rw [e]
        simp only [mSeq, mPut, mOp, mVar, mC, mIfS, mTest, mTr, mNot, mAsg, mgName, mgTup, mgSeq, mgCons, mgNil, mCB, mCons, mNil, mRet, mRetN, mNext, mPar, mParO, mParOO, mLstN, mAnd, mOr, mAndV, mOrV, mNotV, mIf, mTup, mLst, mSl, mPart, mNoPart, mCall, mCallK, mCallF, mDrop, mDat, mOwn, mListN, mUn, mStar, seqD, flat_l, flat_k, refs1_l, refs1_k, refsB_nil, refsB_cons, mApp, mPop0, mChain, mIsi, mRange, mItems, mEnum, mAnyI, mYes, seqOf, frz, isiB, truD, perm, List.filterMap_cons, List.filterMap_nil, AP.S.on, vw, vws, dats, wipeS, retD, vwE, gS_eq, sS_eq, st0, List.reduceReplicate, List.getElem?_cons_zero, List.getElem?_cons_succ, List.set_cons_zero, List.set_cons_succ, List.map_cons, List.map_nil, List.length_cons, List.length_nil, List.cons_append, List.nil_append, List.append_nil, and_self, and_true, true_and, if_true, if_false, decide_true, decide_false, Bool.and_self, Bool.and_true, Bool.true_and, Bool.not_true, Bool.not_false, Nat.reduceAdd, Nat.reduceSub, Nat.reduceLeDiff, Nat.reduceEqDiff, Nat.zero_add, Nat.zero_le, Int.reduceLT, Int.reduceNeg, eP, PL.gEqI, c1, beq_self_eq_true, pr, gIx0, gIx1, eA, eS, inL a own (g.nm a ha) nms, notInL b own (g.nm b hb) nms, decide_eq_true c2, decide_eq_false c3, List.length_map, ol, List.map_append, stH]
    · have e : ownS gv p own ((a, b), i) = own := if_neg fun c => c2 c.2.1
      rw [e]
      simp only [mSeq, mPut, mOp, mVar, mC, mIfS, mTest, mTr, mNot, mAsg, mgName, mgTup, mgSeq, mgCons, mgNil, mCB, mCons, mNil, mRet, mRetN, mNext, mPar, mParO, mParOO, mLstN, mAnd, mOr, mAndV, mOrV, mNotV, mIf, mTup, mLst, mSl, mPart, mNoPart, mCall, mCallK, mCallF, mDrop, mDat, mOwn, mListN, mUn, mStar, seqD, flat_l, flat_k, refs1_l, refs1_k, refsB_nil, refsB_cons, mApp, mPop0, mChain, mIsi, mRange, mItems, mEnum, mAnyI, mYes, seqOf, frz, isiB, truD, perm, List.filterMap_cons, List.filterMap_nil, AP.S.on, vw, vws, dats, wipeS, retD, vwE, gS_eq, sS_eq, st0, List.reduceReplicate, List.getElem?_cons_zero, List.getElem?_cons_succ, List.set_cons_zero, List.set_cons_succ, List.map_cons, List.map_nil, List.length_cons, List.length_nil, List.cons_append, List.nil_append, List.append_nil, and_self, and_true, true_and, if_true, if_false, decide_true, decide_false, Bool.and_self, Bool.and_true, Bool.true_and, Bool.not_true, Bool.not_false, Nat.reduceAdd, Nat.reduceSub, Nat.reduceLeDiff, Nat.reduceEqDiff, Nat.zero_add, Nat.zero_le, Int.reduceLT, Int.reduceNeg, eP, PL.gEqI, c1, beq_self_eq_true, pr, gIx0, gIx1, eA, inL a own (g.nm a ha) nms, decide_eq_false c2]
  · have e : ownS gv p own ((a, b), i) = own := if_neg fun c => c1 (by rw [List.getElem?_eq_getElem il] at c; exact Option.some.inj c.1)
    rw [e]
    simp only [mSeq, mPut, mOp, mVar, mC, mIfS, mTest, mTr, mNot, mAsg, mgName, mgTup, mgSeq, mgCons, mgNil, mCB, mCons, mNil, mRet, mRetN, mNext, mPar, mParO, mParOO, mLstN, mAnd, mOr, mAndV, mOrV, mNotV, mIf, mTup, mLst, mSl, mPart, mNoPart, mCall, mCallK, mCallF, mDrop, mDat, mOwn, mListN, mUn, mStar, seqD, flat_l, flat_k, refs1_l, refs1_k, refsB_nil, refsB_cons, mApp, mPop0, mChain, mIsi, mRange, mItems, mEnum, mAnyI, mYes, seqOf, frz, isiB, truD, perm, List.filterMap_cons, List.filterMap_nil, AP.S.on, vw, vws, dats, wipeS, retD, vwE, gS_eq, sS_eq, st0, List.reduceReplicate, List.getElem?_cons_zero, List.getElem?_cons_succ, List.set_cons_zero, List.set_cons_succ, List.map_cons, List.map_nil, List.length_cons, List.length_nil, List.cons_append, List.nil_append, List.append_nil, and_self, and_true, true_and, if_true, if_false, decide_true, decide_false, Bool.and_self, Bool.and_true, Bool.true_and, Bool.not_true, Bool.not_false, Nat.reduceAdd, Nat.reduceSub, Nat.reduceLeDiff, Nat.reduceEqDiff, Nat.zero_add, Nat.zero_le, Int.reduceLT, Int.reduceNeg, eP, PL.gEqI, beq_eq_false_iff_ne.mpr c1]
theorem laps_ev (g : OkN hs ws) (h6 : hs.length ≤ 60) (hP : IxP P gv) (hl : gv.length = ws.length) {F : List D} {olds : List MO} {own : List Str} (o : OwnOk hs own) {p : Nat} {first : D} {a7 a8 a9 : Option SV} :
    ∃ s', fl__law_has_3 (stH hs ws hd P F olds own p first a7 a8 a9) = some (.nx s') ∧ ∃ b7 b8 b9, s' = stH hs ws hd P F olds (lapsS ws gv p hs.length own) p first b7 b8 b9 ∧ OwnOk hs (lapsS ws gv p hs.length own) := by
  unfold fl__law_has_3
  refine forF (s := stH hs ws hd P F olds own p first a7 a8 a9) (o1 := .l F :: (olds ++ [.l (own.map .str)])) nI (List.range hs.length) (fun own s => ∃ b7 b8 b9, s = stH hs ws hd P F olds own p first b7 b8 b9 ∧ OwnOk hs own) (fun own _ => lapS ws gv p own) own (mRange_nat hs.length (by omega) _ _ _ (by
    simp only [mSeq, mPut, mOp, mVar, mC, mIfS, mTest, mTr, mNot, mAsg, mgName, mgTup, mgSeq, mgCons, mgNil, mCB, mCons, mNil, mRet, mRetN, mNext, mPar, mParO, mParOO, mLstN, mAnd, mOr, mAndV, mOrV, mNotV, mIf, mTup, mLst, mSl, mPart, mNoPart, mCall, mCallK, mCallF, mDrop, mDat, mOwn, mListN, mUn, mStar, seqD, flat_l, flat_k, refs1_l, refs1_k, refsB_nil, refsB_cons, mApp, mPop0, mChain, mIsi, mRange, mItems, mEnum, mAnyI, mYes, seqOf, frz, isiB, truD, perm, List.filterMap_cons, List.filterMap_nil, AP.S.on, vw, vws, dats, wipeS, retD, vwE, gS_eq, sS_eq, st0, List.reduceReplicate, List.getElem?_cons_zero, List.getElem?_cons_succ, List.set_cons_zero, List.set_cons_succ, List.map_cons, List.map_nil, List.length_cons, List.length_nil, List.cons_append, List.nil_append, List.append_nil, and_self, and_true, true_and, if_true, if_false, decide_true, decide_false, Bool.and_self, Bool.and_true, Bool.true_and, Bool.not_true, Bool.not_false, Nat.reduceAdd, Nat.reduceSub, Nat.reduceLeDiff, Nat.reduceEqDiff, Nat.zero_add, Nat.zero_le, Int.reduceLT, Int.reduceNeg, stH, net, T, gIx0, gLenT, List.length_map])) ⟨a7, a8, a9, rfl, o⟩ ?_
  rintro x hx own s ⟨b7, b8, b9, rfl, o⟩
  obtain ⟨s', e, c8, c9, rfl, o2⟩ := lap_ev (hd := hd) g h6 hP hl o (F := F) (olds := olds) (p := p) (first := first) (a7 := some (.d (nI x))) (a8 := b8) (a9 := b9)
  exact ⟨_, _, rfl, .inl e, _, _, _, rfl, o2⟩
theorem has_ev (g : OkG0 hs ws hd gv) (hP : IxP P gv) : runP 10 m__law_has [net hs ws, HL hd, P] = some (HL (hasF ws hd gv)) := by
  have key : ∃ s', fl__law_has_5 ⟨[some (.d (net hs ws)), some (.d (HL hd)), some (.d P), some (.m 0), none, none, none, none, none, none], [.l []]⟩ = some (.nx s') ∧
      ∃ (olds : List MO) (a4 a5 a6 a7 a8 a9 : Option SV), s' = (⟨[some (.d (net hs ws)), some (.d (HL hd)), some (.d P), some (.m 0), a4, a5, a6, a7, a8, a9], .l (((hasF ws hd gv).take (hd.zipIdx).length).map T) :: olds⟩ : S) := by
    unfold fl__law_has_5
    refine forT (s := ⟨[some (.d (net hs ws)), some (.d (HL hd)), some (.d P), some (.m 0), none, none, none, none, none, none], [.l []]⟩) (o1 := [.l []]) (fun q : List Str × Nat => PyData.tuple [.int (q.2 : Nat), T q.1]) hd.zipIdx (fun i s => ∃ (olds : List MO) (a4 a5 a6 a7 a8 a9 : Option SV), s = (⟨[some (.d (net hs ws)), some (.d (HL hd)), some (.d P), some (.m 0), a4, a5, a6, a7, a8, a9], .l (((hasF ws hd gv).take i).map T) :: olds⟩ : S)) (by
      simp only [mSeq, mPut, mOp, mVar, mC, mIfS, mTest, mTr, mNot, mAsg, mgName, mgTup, mgSeq, mgCons, mgNil, mCB, mCons, mNil, mRet, mRetN, mNext, mPar, mParO, mParOO, mLstN, mAnd, mOr, mAndV, mOrV, mNotV, mIf, mTup, mLst, mSl, mPart, mNoPart, mCall, mCallK, mCallF, mDrop, mDat, mOwn, mListN, mUn, mStar, seqD, flat_l, flat_k, refs1_l, refs1_k, refsB_nil, refsB_cons, mApp, mPop0, mChain, mIsi, mRange, mItems, mEnum, mAnyI, mYes, seqOf, frz, isiB, truD, perm, List.filterMap_cons, List.filterMap_nil, AP.S.on, vw, vws, dats, wipeS, retD, vwE, gS_eq, sS_eq, st0, List.reduceReplicate, List.getElem?_cons_zero, List.getElem?_cons_succ, List.set_cons_zero, List.set_cons_succ, List.map_cons, List.map_nil, List.length_cons, List.length_nil, List.cons_append, List.nil_append, List.append_nil, and_self, and_true, true_and, if_true, if_false, decide_true, decide_false, Bool.and_self, Bool.and_true, Bool.true_and, Bool.not_true, Bool.not_false, Nat.reduceAdd, Nat.reduceSub, Nat.reduceLeDiff, Nat.reduceEqDiff, Nat.zero_add, Nat.zero_le, Int.reduceLT, Int.reduceNeg, enum0]) ⟨[], none, none, none, none, none, none, rfl⟩ ?_
    rintro i ⟨held, j⟩ s hi ⟨olds, a4, a5, a6, a7, a8, a9, rfl⟩
    rw [List.getElem?_zipIdx] at hi
    obtain ⟨h1, e1, e2⟩ := Option.map_eq_some_iff.mp hi
    rw [Nat.zero_add] at e2
    cases e2
    have hm := List.mem_of_getElem? e1
    have o : OwnOk hs held := ⟨up_nd (g.hu _ hm), g.hsub _ hm⟩
    obtain ⟨s', e3, b7, b8, b9, rfl, o2⟩ := laps_ev (hd := hd) (P := P) g.toOkN g.h6 hP g.gl o (F := ((hasF ws hd gv).take i).map T) (olds := olds) (p := i) (first := T held) (a7 := a7) (a8 := a8) (a9 := a9)
    have ll : (lapsS ws gv i hs.length held).length ≤ 60 := by have := nd_le o2.nd o2.sub; have := g.h6; omega
    have hget : (hasF ws hd gv)[i]? = some (sortS (keys (comersF ws held gv i))) := by
      unfold hasF
      rw [List.getElem?_map, CF_get e1]
      rfl
    have tk : (hasF ws hd gv).take (i + 1) = (hasF ws hd gv).take i ++ [sortS (dedS (lapsS ws gv i hs.length held))] := by
      rw [laps_sort g.wk o.nd (g.hn _ hm) o.sub (by have := g.h6; omega), List.take_succ, hget]
      rfl
    have eA : ∀ y : MO, (olds ++ [y])[olds.length]? = some y := fun y => by rw [List.getElem?_append_right (Nat.le_refl _)]; simp
    have l3 : ((hasF ws hd gv).take i).length < 100000 := by
      rw [List.length_take]
      have := (List.getElem?_eq_some_iff.mp e1).1
      have := g.ph
      omega
    refine ⟨_, _, rfl, .inl ?_, olds ++ [.l ((lapsS ws gv i hs.length held).map .str)], some (.d (nI i)), some (.d (T held)), some (.m (olds.length + 1)), b7, b8, b9, rfl⟩
    unfold fb__law_has_4
    refine seq_nx (s1 := stH hs ws hd P (((hasF ws hd gv).take i).map T) olds held i (T held) a7 a8 a9) (by simp only [mSeq, mPut, mOp, mVar, mC, mIfS, mTest, mTr, mNot, mAsg, mgName, mgTup, mgSeq, mgCons, mgNil, mCB, mCons, mNil, mRet, mRetN, mNext, mPar, mParO, mParOO, mLstN, mAnd, mOr, mAndV, mOrV, mNotV, mIf, mTup, mLst, mSl, mPart, mNoPart, mCall, mCallK, mCallF, mDrop, mDat, mOwn, mListN, mUn, mStar, seqD, flat_l, flat_k, refs1_l, refs1_k, refsB_nil, refsB_cons, mApp, mPop0, mChain, mIsi, mRange, mItems, mEnum, mAnyI, mYes, seqOf, frz, isiB, truD, perm, List.filterMap_cons, List.filterMap_nil, AP.S.on, vw, vws, dats, wipeS, retD, vwE, gS_eq, sS_eq, st0, List.reduceReplicate, List.getElem?_cons_zero, List.getElem?_cons_succ, List.set_cons_zero, List.set_cons_succ, List.map_cons, List.map_nil, List.length_cons, List.length_nil, List.cons_append, List.nil_append, List.append_nil, and_self, and_true, true_and, if_true, if_false, decide_true, decide_false, Bool.and_self, Bool.and_true, Bool.true_and, Bool.not_true, Bool.not_false, Nat.reduceAdd, Nat.reduceSub, Nat.reduceLeDiff, Nat.reduceEqDiff, Nat.zero_add, Nat.zero_le, Int.reduceLT, Int.reduceNeg, T]) (seq_nx e3 ?_)
    simp only [mSeq, mPut, mOp, mVar, mC, mIfS, mTest, mTr, mNot, mAsg, mgName, mgTup, mgSeq, mgCons, mgNil, mCB, mCons, mNil, mRet, mRetN, mNext, mPar, mParO, mParOO, mLstN, mAnd, mOr, mAndV, mOrV, mNotV, mIf, mTup, mLst, mSl, mPart, mNoPart, mCall, mCallK, mCallF, mDrop, mDat, mOwn, mListN, mUn, mStar, seqD, flat_l, flat_k, refs1_l, refs1_k, refsB_nil, refsB_cons, mApp, mPop0, mChain, mIsi, mRange, mItems, mEnum, mAnyI, mYes, seqOf, frz, isiB, truD, perm, List.filterMap_cons, List.filterMap_nil, AP.S.on, vw, vws, dats, wipeS, retD, vwE, gS_eq, sS_eq, st0, List.reduceReplicate, List.getElem?_cons_zero, List.getElem?_cons_succ, List.set_cons_zero, List.set_cons_succ, List.map_cons, List.map_nil, List.length_cons, List.length_nil, List.cons_append, List.nil_append, List.append_nil, and_self, and_true, true_and, if_true, if_false, decide_true, decide_false, Bool.and_self, Bool.and_true, Bool.true_and, Bool.not_true, Bool.not_false, Nat.reduceAdd, Nat.reduceSub, Nat.reduceLeDiff, Nat.reduceEqDiff, Nat.zero_add, Nat.zero_le, Int.reduceLT, Int.reduceNeg, eA, gSSx_strs ll, gTupL, List.length_map, l3, tk, List.map_append, T]
  obtain ⟨s', e, olds, a4, a5, a6, a7, a8, a9, rfl⟩ := key
  unfold runP m__law_has
  refine (congrArg retD (show _ = some (.rt (.d (HL (hasF ws hd gv))) (.l (((hasF ws hd gv).take hd.zipIdx.length).map T) :: olds)) from seq_nx (s1 := ⟨[some (.d (net hs ws)), some (.d (HL hd)), some (.d P), some (.m 0), none, none, none, none, none, none], [.l []]⟩) (by simp only [mSeq, mPut, mOp, mVar, mC, mIfS, mTest, mTr, mNot, mAsg, mgName, mgTup, mgSeq, mgCons, mgNil, mCB, mCons, mNil, mRet, mRetN, mNext, mPar, mParO, mParOO, mLstN, mAnd, mOr, mAndV, mOrV, mNotV, mIf, mTup, mLst, mSl, mPart, mNoPart, mCall, mCallK, mCallF, mDrop, mDat, mOwn, mListN, mUn, mStar, seqD, flat_l, flat_k, refs1_l, refs1_k, refsB_nil, refsB_cons, mApp, mPop0, mChain, mIsi, mRange, mItems, mEnum, mAnyI, mYes, seqOf, frz, isiB, truD, perm, List.filterMap_cons, List.filterMap_nil, AP.S.on, vw, vws, dats, wipeS, retD, vwE, gS_eq, sS_eq, st0, List.reduceReplicate, List.getElem?_cons_zero, List.getElem?_cons_succ, List.set_cons_zero, List.set_cons_succ, List.map_cons, List.map_nil, List.length_cons, List.length_nil, List.cons_append, List.nil_append, List.append_nil, and_self, and_true, true_and, if_true, if_false, decide_true, decide_false, Bool.and_self, Bool.and_true, Bool.true_and, Bool.not_true, Bool.not_false, Nat.reduceAdd, Nat.reduceSub, Nat.reduceLeDiff, Nat.reduceEqDiff, Nat.zero_add, Nat.zero_le, Int.reduceLT, Int.reduceNeg]) (seq_nx e ?_))).trans rfl
  have tl : (hasF ws hd gv).take hd.zipIdx.length = hasF ws hd gv := List.take_of_length_le (by unfold hasF; rw [List.length_map, CF_len]; simp)
  simp only [mSeq, mPut, mOp, mVar, mC, mIfS, mTest, mTr, mNot, mAsg, mgName, mgTup, mgSeq, mgCons, mgNil, mCB, mCons, mNil, mRet, mRetN, mNext, mPar, mParO, mParOO, mLstN, mAnd, mOr, mAndV, mOrV, mNotV, mIf, mTup, mLst, mSl, mPart, mNoPart, mCall, mCallK, mCallF, mDrop, mDat, mOwn, mListN, mUn, mStar, seqD, flat_l, flat_k, refs1_l, refs1_k, refsB_nil, refsB_cons, mApp, mPop0, mChain, mIsi, mRange, mItems, mEnum, mAnyI, mYes, seqOf, frz, isiB, truD, perm, List.filterMap_cons, List.filterMap_nil, AP.S.on, vw, vws, dats, wipeS, retD, vwE, gS_eq, sS_eq, st0, List.reduceReplicate, List.getElem?_cons_zero, List.getElem?_cons_succ, List.set_cons_zero, List.set_cons_succ, List.map_cons, List.map_nil, List.length_cons, List.length_nil, List.cons_append, List.nil_append, List.append_nil, and_self, and_true, true_and, if_true, if_false, decide_true, decide_false, Bool.and_self, Bool.and_true, Bool.true_and, Bool.not_true, Bool.not_false, Nat.reduceAdd, Nat.reduceSub, Nat.reduceLeDiff, Nat.reduceEqDiff, Nat.zero_add, Nat.zero_le, Int.reduceLT, Int.reduceNeg, gTupL, tl]
end
end
end PF2

namespace PL
noncomputable section
open PySem PySem.Spec PyProof.Rows L2 RZ AP
section
variable [Tbls] [Gd]
variable {hs : List Str} {ws : List Wr} {hd : List (List Str)} {gv : List Int}
theorem hasF_at (g : OkG0 hs ws hd gv) {p : Nat} {held : List Str} (e : hd[p]? = some held) : ∃ X, (hasF ws hd gv)[p]? = some X ∧ (∀ x, x ∈ X ↔ Reach ws held gv p x) ∧ X.Pairwise ltS ∧ ∀ x ∈ X, x ∈ hs := by
  have hm := List.mem_of_getElem? e
  have h1 : ∀ x, x ∈ sortS (keys (comersF ws held gv p)) ↔ Reach ws held gv p x := fun x => by
    rw [sort_mem, comers_iff g.wk (up_nd (g.hu _ hm)) (g.hsub _ hm) g.hl]
  refine ⟨sortS (keys (comersF ws held gv p)), ?_, h1, sort_up (comersF_ok g.wk (up_nd (g.hu _ hm)) (g.hsub _ hm) g.hl).1.nd, fun x hx => reach_sub g.wk (g.hsub _ hm) ((h1 x).mp hx)⟩
  unfold hasF
  rw [List.getElem?_map, CF_get e]
  rfl
theorem hasF_len : (hasF ws hd gv).length = hd.length := by unfold hasF; rw [List.length_map, CF_len]
def hasB (ws : List Wr) (hd : List (List Str)) (gv : List Int) (a : Str) (p : Nat) : Bool := decide (a ∈ (hasF ws hd gv).getD p [])
theorem Reach.put {held : List Str} {p : Int} {k : Nat} {v : Int} (hp : p ≠ -1) (hk : gv[k]? = some (-1)) {x : Str} (h : Reach ws held gv p x) : Reach ws held (gv.set k v) p x := by
  induction h with
  | at_ ha => exact .at_ ha
  | @by_ j a b _ h1 h2 ih =>
    refine .by_ ih h1 ?_
    rw [List.getElem?_set_ne]
    · exact h2
    · intro e
      subst e
      rw [hk] at h2
      exact hp (Option.some.inj h2).symm
theorem OkG.put (g : OkG hs ws hd gv) {k p : Nat} {a b : Str} {held : List Str} (hk : gv[k]? = some (-1)) (hw : ws[k]? = some (a, b)) (hh : hd[p]? = some held) (hr : Reach ws held gv p a) : OkG hs ws hd (gv.set k (p : Int)) := by
  have hp : p < hd.length := (List.getElem?_eq_some_iff.mp hh).1
  refine ⟨⟨g.toOkH, by rw [List.length_set]; exact g.gl, fun x hx => ?_⟩, fun j q c d hd2 e1 e2 e3 => ?_⟩
  · rcases List.mem_or_eq_of_mem_set hx with h | h
    · exact g.gr x h
    · subst h
      omega
  · by_cases e : k = j
    · subst e
      rw [List.getElem?_set_self (List.getElem?_eq_some_iff.mp hk).1] at e1
      have e4 : p = q := by have := Option.some.inj e1; omega
      subst e4
      rw [hh] at e3
      cases e3
      rw [hw] at e2
      cases e2
      exact hr.put (by omega) hk
    · rw [List.getElem?_set_ne e] at e1
      exact (g.gs j q c d hd2 e1 e2 e3).put (by omega) hk
theorem OkG.none (g : OkH hs ws hd) : OkG hs ws hd (List.replicate ws.length (-1)) := by
  refine ⟨⟨g, List.length_replicate, fun x hx => ?_⟩, fun k p a b held e1 _ _ => ?_⟩
  · rw [List.eq_of_mem_replicate hx]
    omega
  · have := List.eq_of_mem_replicate (List.mem_of_getElem? e1)
    omega
theorem noL_T : ∀ xs : List Str, noLs (xs.map .str) = true
  | [] => by simp [noLs]
  | x :: xs => by simp [noLs, noL, noL_T xs]
theorem noL_HLs : ∀ xs : List (List Str), noLs (xs.map T) = true
  | [] => by simp [noLs]
  | x :: xs => by simp only [List.map_cons, noLs, T, noL, noL_T x, noL_HLs xs, Bool.and_self]
theorem noL_HL (xs : List (List Str)) : noL (HL xs) = true := by simp only [HL, noL, noL_HLs xs]
theorem shpL_nats (xs : List Nat) : shp (.list (xs.map nI)) = true := by
  have e : xs.map nI = (xs.map fun k : Nat => (k : Int)).map .int := by rw [List.map_map]; rfl
  rw [e]
  exact shp_of (by simp only [PyData.canLay0, lay_ints]) (by simp only [PyData.depth, deep_ints]; decide)
end
end
end PL
namespace PF2
noncomputable section
open PySem PySem.Spec PyProof.Rows L2 RZ AP PL
section
variable [Tbls] [Gd]
variable {hs : List Str} {ws : List Wr} {hd : List (List Str)} {gv : List Int}
theorem repN_ev {a b : EM} {s : S} {x y : SV} {o1 o2 : List MO} {xs : List D} {n : Nat} (ha : a s = some (x, o1)) (hb : b (s.on o1) = some (y, o2)) (hx : vw o2 x = some (.list xs)) (hy : vw o2 y = some (.int (n : Int))) (h1 : n ≤ 100000) (h2 : xs.length * n ≤ 100000) : mRepN a b s = some (.l (List.replicate n xs).flatten, o2) := by
  have c1 : -(2 ^ 63) ≤ (n : Int) := Int.le_trans (by decide) (Int.natCast_nonneg n)
  have c2 : (n : Int) < 2 ^ 63 := Int.lt_of_le_of_lt (Int.ofNat_le.mpr h1) (by decide)
  unfold mRepN
  rw [ha]
  dsimp only
  rw [hb]
  dsimp only
  rw [hx, hy]
  dsimp only
  rw [if_pos ⟨c1, c2, by rw [Int.toNat_natCast]; exact h2⟩, Int.toNat_natCast]
def someF (ws : List Wr) (hd : List (List Str)) (gv : List Int) (a : Str) : List Nat := (List.range hd.length).filter (hasB ws hd gv a)
def lateF (ws : List Wr) (hd : List (List Str)) (gv : List Int) (a b : Str) : List Nat := (someF ws hd gv a).filter fun p => !hasB ws hd gv b p
theorem hasB_ev (g : OkG0 hs ws hd gv) {p : Nat} (hp : p < hd.length) {a : Str} (ha : a ∈ hs) : ∃ X : List Str, gIx (HL (hasF ws hd gv)) (.int (p : Int)) = some (T X) ∧ gIn (.str a) (T X) = some (.bool (hasB ws hd gv a p)) ∧ gNotIn (.str a) (T X) = some (.bool (!hasB ws hd gv a p)) := by
  obtain ⟨X, e, h1, h2, h3⟩ := hasF_at g (List.getElem?_eq_getElem hp)
  have q : hasB ws hd gv a p = decide (a ∈ X) := by unfold hasB; rw [List.getD_eq_getElem?_getD, e]; rfl
  refine ⟨X, by rw [gIxT, List.getElem?_map, e]; rfl, ?_, ?_⟩
  · rw [q]; exact inT a X (g.nm a ha) fun x hx => g.nm x (h3 x hx)
  · rw [q]; exact notInT a X (g.nm a ha) fun x hx => g.nm x (h3 x hx)
theorem someF_reach (g : OkG0 hs ws hd gv) {a : Str} {p : Nat} (h : p ∈ someF ws hd gv a) : ∃ held, hd[p]? = some held ∧ Reach ws held gv p a := by
  obtain ⟨h1, h2⟩ := List.mem_filter.mp h
  have hp := List.mem_range.mp h1
  obtain ⟨X, e, h3, _⟩ := hasF_at g (List.getElem?_eq_getElem hp)
  refine ⟨_, List.getElem?_eq_getElem hp, (h3 a).mp ?_⟩
  unfold hasB at h2
  rw [List.getD_eq_getElem?_getD, e] at h2
  simpa using h2
abbrev stP (hs : List Str) (ws : List Wr) (hd : List (List Str)) (n : Nat) (a5 a6 a7 a8 a9 a10 a11 : Option SV) (f : MO) (gv : List Int) : S :=
  ⟨[some (.m 0), some (.d (net hs ws)), some (.d (HL hd)), some (.d (.int n)), some (.m 1), a5, a6, a7, a8, a9, a10, a11, none], [f, .l (gv.map .int)]⟩
theorem lcp0 (g : OkG0 hs ws hd gv) {a : Str} (ha : a ∈ hs) {n : Nat} {a5 a6 a7 a8 a11 : Option SV} {f : MO} :
    lc__law_plan_0 (stP hs ws hd n a5 a6 a7 a8 (some (.d (HL (hasF ws hd gv)))) (some (.d (.str a))) a11 f gv) = some (.l ((someF ws hd gv a).map nI), [f, .l (gv.map .int)]) := by
  unfold lc__law_plan_0
  refine lcT nI (List.range hd.length) (hasB ws hd gv a) nI (mRange_nat hd.length (by have := g.ph; omega) _ _ _ (by simp only [mSeq, mPut, mOp, mVar, mC, mIfS, mTest, mTr, mNot, mAsg, mgName, mgTup, mgSeq, mgCons, mgNil, mCB, mCons, mNil, mRet, mRetN, mNext, mPar, mParO, mParOO, mLstN, mAnd, mOr, mAndV, mOrV, mNotV, mIf, mTup, mLst, mSl, mPart, mNoPart, mCall, mCallK, mCallF, mDrop, mDat, mOwn, mListN, mUn, mStar, seqD, flat_l, flat_k, refs1_l, refs1_k, refsB_nil, refsB_cons, mApp, mPop0, mChain, mIsi, mRange, mItems, mEnum, mAnyI, mYes, seqOf, frz, isiB, truD, perm, List.filterMap_cons, List.filterMap_nil, AP.S.on, vw, vws, dats, wipeS, retD, vwE, gS_eq, sS_eq, st0, List.reduceReplicate, List.getElem?_cons_zero, List.getElem?_cons_succ, List.set_cons_zero, List.set_cons_succ, List.map_cons, List.map_nil, List.length_cons, List.length_nil, List.cons_append, List.nil_append, List.append_nil, and_self, and_true, true_and, if_true, if_false, decide_true, decide_false, Bool.and_self, Bool.and_true, Bool.true_and, Bool.not_true, Bool.not_false, Nat.reduceAdd, Nat.reduceSub, Nat.reduceLeDiff, Nat.reduceEqDiff, Nat.zero_add, Nat.zero_le, Int.reduceLT, Int.reduceNeg, stP, gLenT, List.length_map])) (by rw [List.length_range]; have := g.ph; omega) fun p hp acc => ⟨_, rfl, ?_, fun _ => ?_⟩
  · obtain ⟨X, e1, e2, e3⟩ := hasB_ev g (List.mem_range.mp hp) ha
    simp only [mSeq, mPut, mOp, mVar, mC, mIfS, mTest, mTr, mNot, mAsg, mgName, mgTup, mgSeq, mgCons, mgNil, mCB, mCons, mNil, mRet, mRetN, mNext, mPar, mParO, mParOO, mLstN, mAnd, mOr, mAndV, mOrV, mNotV, mIf, mTup, mLst, mSl, mPart, mNoPart, mCall, mCallK, mCallF, mDrop, mDat, mOwn, mListN, mUn, mStar, seqD, flat_l, flat_k, refs1_l, refs1_k, refsB_nil, refsB_cons, mApp, mPop0, mChain, mIsi, mRange, mItems, mEnum, mAnyI, mYes, seqOf, frz, isiB, truD, perm, List.filterMap_cons, List.filterMap_nil, AP.S.on, vw, vws, dats, wipeS, retD, vwE, gS_eq, sS_eq, st0, List.reduceReplicate, List.getElem?_cons_zero, List.getElem?_cons_succ, List.set_cons_zero, List.set_cons_succ, List.map_cons, List.map_nil, List.length_cons, List.length_nil, List.cons_append, List.nil_append, List.append_nil, and_self, and_true, true_and, if_true, if_false, decide_true, decide_false, Bool.and_self, Bool.and_true, Bool.true_and, Bool.not_true, Bool.not_false, Nat.reduceAdd, Nat.reduceSub, Nat.reduceLeDiff, Nat.reduceEqDiff, Nat.zero_add, Nat.zero_le, Int.reduceLT, Int.reduceNeg, stP, e1, e2]
  · simp only [mSeq, mPut, mOp, mVar, mC, mIfS, mTest, mTr, mNot, mAsg, mgName, mgTup, mgSeq, mgCons, mgNil, mCB, mCons, mNil, mRet, mRetN, mNext, mPar, mParO, mParOO, mLstN, mAnd, mOr, mAndV, mOrV, mNotV, mIf, mTup, mLst, mSl, mPart, mNoPart, mCall, mCallK, mCallF, mDrop, mDat, mOwn, mListN, mUn, mStar, seqD, flat_l, flat_k, refs1_l, refs1_k, refsB_nil, refsB_cons, mApp, mPop0, mChain, mIsi, mRange, mItems, mEnum, mAnyI, mYes, seqOf, frz, isiB, truD, perm, List.filterMap_cons, List.filterMap_nil, AP.S.on, vw, vws, dats, wipeS, retD, vwE, gS_eq, sS_eq, st0, List.reduceReplicate, List.getElem?_cons_zero, List.getElem?_cons_succ, List.set_cons_zero, List.set_cons_succ, List.map_cons, List.map_nil, List.length_cons, List.length_nil, List.cons_append, List.nil_append, List.append_nil, and_self, and_true, true_and, if_true, if_false, decide_true, decide_false, Bool.and_self, Bool.and_true, Bool.true_and, Bool.not_true, Bool.not_false, Nat.reduceAdd, Nat.reduceSub, Nat.reduceLeDiff, Nat.reduceEqDiff, Nat.zero_add, Nat.zero_le, Int.reduceLT, Int.reduceNeg, stP]
theorem lcp1 (g : OkG0 hs ws hd gv) {a b : Str} (hb : b ∈ hs) {n : Nat} {a5 a7 a8 a10 : Option SV} {f : MO} :
    lc__law_plan_1 (stP hs ws hd n a5 (some (.d (.list ((someF ws hd gv a).map nI)))) a7 a8 (some (.d (HL (hasF ws hd gv)))) a10 (some (.d (.str b))) f gv) = some (.l ((lateF ws hd gv a b).map nI), [f, .l (gv.map .int)]) := by
  unfold lc__law_plan_1
  refine lcT nI (someF ws hd gv a) (fun p => !hasB ws hd gv b p) nI (by simp only [mSeq, mPut, mOp, mVar, mC, mIfS, mTest, mTr, mNot, mAsg, mgName, mgTup, mgSeq, mgCons, mgNil, mCB, mCons, mNil, mRet, mRetN, mNext, mPar, mParO, mParOO, mLstN, mAnd, mOr, mAndV, mOrV, mNotV, mIf, mTup, mLst, mSl, mPart, mNoPart, mCall, mCallK, mCallF, mDrop, mDat, mOwn, mListN, mUn, mStar, seqD, flat_l, flat_k, refs1_l, refs1_k, refsB_nil, refsB_cons, mApp, mPop0, mChain, mIsi, mRange, mItems, mEnum, mAnyI, mYes, seqOf, frz, isiB, truD, perm, List.filterMap_cons, List.filterMap_nil, AP.S.on, vw, vws, dats, wipeS, retD, vwE, gS_eq, sS_eq, st0, List.reduceReplicate, List.getElem?_cons_zero, List.getElem?_cons_succ, List.set_cons_zero, List.set_cons_succ, List.map_cons, List.map_nil, List.length_cons, List.length_nil, List.cons_append, List.nil_append, List.append_nil, and_self, and_true, true_and, if_true, if_false, decide_true, decide_false, Bool.and_self, Bool.and_true, Bool.true_and, Bool.not_true, Bool.not_false, Nat.reduceAdd, Nat.reduceSub, Nat.reduceLeDiff, Nat.reduceEqDiff, Nat.zero_add, Nat.zero_le, Int.reduceLT, Int.reduceNeg, stP]) (by
    have := List.length_filter_le (hasB ws hd gv a) (List.range hd.length)
    rw [List.length_range] at this
    unfold someF
    have := g.ph
    omega) fun p hp acc => ⟨_, rfl, ?_, fun _ => ?_⟩
  · obtain ⟨X, e1, e2, e3⟩ := hasB_ev g (List.mem_range.mp (List.mem_filter.mp hp).1) hb
    simp only [mSeq, mPut, mOp, mVar, mC, mIfS, mTest, mTr, mNot, mAsg, mgName, mgTup, mgSeq, mgCons, mgNil, mCB, mCons, mNil, mRet, mRetN, mNext, mPar, mParO, mParOO, mLstN, mAnd, mOr, mAndV, mOrV, mNotV, mIf, mTup, mLst, mSl, mPart, mNoPart, mCall, mCallK, mCallF, mDrop, mDat, mOwn, mListN, mUn, mStar, seqD, flat_l, flat_k, refs1_l, refs1_k, refsB_nil, refsB_cons, mApp, mPop0, mChain, mIsi, mRange, mItems, mEnum, mAnyI, mYes, seqOf, frz, isiB, truD, perm, List.filterMap_cons, List.filterMap_nil, AP.S.on, vw, vws, dats, wipeS, retD, vwE, gS_eq, sS_eq, st0, List.reduceReplicate, List.getElem?_cons_zero, List.getElem?_cons_succ, List.set_cons_zero, List.set_cons_succ, List.map_cons, List.map_nil, List.length_cons, List.length_nil, List.cons_append, List.nil_append, List.append_nil, and_self, and_true, true_and, if_true, if_false, decide_true, decide_false, Bool.and_self, Bool.and_true, Bool.true_and, Bool.not_true, Bool.not_false, Nat.reduceAdd, Nat.reduceSub, Nat.reduceLeDiff, Nat.reduceEqDiff, Nat.zero_add, Nat.zero_le, Int.reduceLT, Int.reduceNeg, stP, e1, e3]
  · simp only [mSeq, mPut, mOp, mVar, mC, mIfS, mTest, mTr, mNot, mAsg, mgName, mgTup, mgSeq, mgCons, mgNil, mCB, mCons, mNil, mRet, mRetN, mNext, mPar, mParO, mParOO, mLstN, mAnd, mOr, mAndV, mOrV, mNotV, mIf, mTup, mLst, mSl, mPart, mNoPart, mCall, mCallK, mCallF, mDrop, mDat, mOwn, mListN, mUn, mStar, seqD, flat_l, flat_k, refs1_l, refs1_k, refsB_nil, refsB_cons, mApp, mPop0, mChain, mIsi, mRange, mItems, mEnum, mAnyI, mYes, seqOf, frz, isiB, truD, perm, List.filterMap_cons, List.filterMap_nil, AP.S.on, vw, vws, dats, wipeS, retD, vwE, gS_eq, sS_eq, st0, List.reduceReplicate, List.getElem?_cons_zero, List.getElem?_cons_succ, List.set_cons_zero, List.set_cons_succ, List.map_cons, List.map_nil, List.length_cons, List.length_nil, List.cons_append, List.nil_append, List.append_nil, and_self, and_true, true_and, if_true, if_false, decide_true, decide_false, Bool.and_self, Bool.and_true, Bool.true_and, Bool.not_true, Bool.not_false, Nat.reduceAdd, Nat.reduceSub, Nat.reduceLeDiff, Nat.reduceEqDiff, Nat.zero_add, Nat.zero_le, Int.reduceLT, Int.reduceNeg, stP]
theorem lateF_sub {a b : Str} {p : Nat} (h : p ∈ lateF ws hd gv a b) : p ∈ someF ws hd gv a := (List.mem_filter.mp h).1
theorem someF_len (g : OkG0 hs ws hd gv) {a : Str} : (someF ws hd gv a).length ≤ 100 := by
  have := List.length_filter_le (hasB ws hd gv a) (List.range hd.length)
  rw [List.length_range] at this
  unfold someF
  have := g.ph
  omega
theorem plan_step {k : DC2} (hk : k.ok = true) {f : MO} (hf : FeedOk f) (g : OkG hs ws hd gv) (w0 : ws ≠ []) {n : Nat} {a5 a6 a7 a8 a9 a10 a11 : Option SV} :
    ∃ (f' : MO) (gv' : List Int) (b6 b7 b8 b9 b10 b11 : Option SV), fb__law_plan_2 k (stP hs ws hd n a5 a6 a7 a8 a9 a10 a11 f gv) = some (.nx (stP hs ws hd n a5 b6 b7 b8 b9 b10 b11 f' gv')) ∧ FeedOk f' ∧ OkG hs ws hd gv' := by
  have wl := g.wl
  obtain ⟨num, f1, q1, hn, h1⟩ := drawN hk hf (n := ws.length) (by have := List.length_pos_iff.mpr w0; omega) (by omega)
  obtain ⟨d, f2, q2, _, h2⟩ := drawN hk h1 (n := 4) (by decide) (by decide)
  have q2' : runF 7 (m__law_draw k) f1 [.int 4] = some (.int (d : Int), f2) := q2
  have ew : ws[num]? = some ws[num] := List.getElem?_eq_getElem hn
  obtain ⟨a, b, eab⟩ : ∃ a b, ws[num] = (a, b) := ⟨_, _, rfl⟩
  rw [eab] at ew
  obtain ⟨ha, hb, ne⟩ := g.wk _ (List.mem_of_getElem? ew)
  have hg : num < gv.length := by rw [g.gl]; exact hn
  have eg : gv[num]? = some gv[num] := List.getElem?_eq_getElem hg
  have eh := has_ev g.toOkG0 (ixP_L gv)
  have en : gIx (net hs ws) (.int 1) = some (W ws) := gIx1 _ _ _
  have epair : gIx (W ws) (.int (num : Int)) = some (pr (a, b)) := by rw [gIxT, List.getElem?_map, ew]; rfl
  -- the first three assignments
  have s1 : (mAsg (mTup (mCons (mCallF 2 (runF 7 (m__law_draw k)) (mCons (mVar 0) (mCons (mCB gLen (mCons (mOp gIx (mVar 1) (mC (.int 1))) mNil)) mNil))) (mCons (mCallU 3 (runP 10 m__law_has) (mCons (mVar 1) (mCons (mVar 2) (mCons (mVar 4) mNil)))) mNil))) (mgSeq 2 (mgCons (mgName 8) (mgCons (mgName 9) mgNil)))) (stP hs ws hd n a5 a6 a7 a8 a9 a10 a11 f gv) =
      some (.nx (stP hs ws hd n a5 a6 a7 (some (.d (nI num))) (some (.d (HL (hasF ws hd gv)))) a10 a11 f1 gv)) := by
    simp only [mSeq, mPut, mOp, mVar, mC, mIfS, mTest, mTr, mNot, mAsg, mgName, mgTup, mgSeq, mgCons, mgNil, mCB, mCons, mNil, mRet, mRetN, mNext, mPar, mParO, mParOO, mLstN, mAnd, mOr, mAndV, mOrV, mNotV, mIf, mTup, mLst, mSl, mPart, mNoPart, mCall, mCallK, mCallF, mDrop, mDat, mOwn, mListN, mUn, mStar, seqD, flat_l, flat_k, refs1_l, refs1_k, refsB_nil, refsB_cons, mApp, mPop0, mChain, mIsi, mRange, mItems, mEnum, mAnyI, mYes, seqOf, frz, isiB, truD, perm, List.filterMap_cons, List.filterMap_nil, AP.S.on, vw, vws, dats, wipeS, retD, vwE, gS_eq, sS_eq, st0, List.reduceReplicate, List.getElem?_cons_zero, List.getElem?_cons_succ, List.set_cons_zero, List.set_cons_succ, List.map_cons, List.map_nil, List.length_cons, List.length_nil, List.cons_append, List.nil_append, List.append_nil, and_self, and_true, true_and, if_true, if_false, decide_true, decide_false, Bool.and_self, Bool.and_true, Bool.true_and, Bool.not_true, Bool.not_false, Nat.reduceAdd, Nat.reduceSub, Nat.reduceLeDiff, Nat.reduceEqDiff, Nat.zero_add, Nat.zero_le, Int.reduceLT, Int.reduceNeg, stP, en, gLenT, List.length_map, q1, mCallU, eh, noL_HL]
  have s2 : (mAsg (mOp gIx (mOp gIx (mVar 1) (mC (.int 1))) (mVar 8)) (mgSeq 2 (mgCons (mgName 10) (mgCons (mgName 11) mgNil)))) (stP hs ws hd n a5 a6 a7 (some (.d (nI num))) (some (.d (HL (hasF ws hd gv)))) a10 a11 f1 gv) =
      some (.nx (stP hs ws hd n a5 a6 a7 (some (.d (nI num))) (some (.d (HL (hasF ws hd gv)))) (some (.d (.str a))) (some (.d (.str b))) f1 gv)) := by
    simp only [mSeq, mPut, mOp, mVar, mC, mIfS, mTest, mTr, mNot, mAsg, mgName, mgTup, mgSeq, mgCons, mgNil, mCB, mCons, mNil, mRet, mRetN, mNext, mPar, mParO, mParOO, mLstN, mAnd, mOr, mAndV, mOrV, mNotV, mIf, mTup, mLst, mSl, mPart, mNoPart, mCall, mCallK, mCallF, mDrop, mDat, mOwn, mListN, mUn, mStar, seqD, flat_l, flat_k, refs1_l, refs1_k, refsB_nil, refsB_cons, mApp, mPop0, mChain, mIsi, mRange, mItems, mEnum, mAnyI, mYes, seqOf, frz, isiB, truD, perm, List.filterMap_cons, List.filterMap_nil, AP.S.on, vw, vws, dats, wipeS, retD, vwE, gS_eq, sS_eq, st0, List.reduceReplicate, List.getElem?_cons_zero, List.getElem?_cons_succ, List.set_cons_zero, List.set_cons_succ, List.map_cons, List.map_nil, List.length_cons, List.length_nil, List.cons_append, List.nil_append, List.append_nil, and_self, and_true, true_and, if_true, if_false, decide_true, decide_false, Bool.and_self, Bool.and_true, Bool.true_and, Bool.not_true, Bool.not_false, Nat.reduceAdd, Nat.reduceSub, Nat.reduceLeDiff, Nat.reduceEqDiff, Nat.zero_add, Nat.zero_le, Int.reduceLT, Int.reduceNeg, stP, en, epair, pr]
  have s3 := lcp0 g.toOkG0 ha (n := n) (a5 := a5) (a6 := a6) (a7 := a7) (a8 := some (.d (nI num))) (a11 := some (.d (.str b))) (f := f1)
  have s4 := lcp1 g.toOkG0 hb (a := a) (n := n) (a5 := a5) (a7 := a7) (a8 := some (.d (nI num))) (a10 := some (.d (.str a))) (f := f1)
  -- what may be given
  have s5 : ∃ L : List Nat, (∀ p ∈ L, p ∈ someF ws hd gv a) ∧ L.length ≤ 100 ∧ (mIfS (mTest (mOp gGtU (mCallF 2 (runF 7 (m__law_draw k)) (mCons (mVar 0) (mCons (mC (.int 4)) mNil))) (mC (.int 0)))) (mAsg (mVar 7) (mgName 6)) mNext)
      (stP hs ws hd n a5 (some (.d (.list ((someF ws hd gv a).map nI)))) (some (.d (.list ((lateF ws hd gv a b).map nI)))) (some (.d (nI num))) (some (.d (HL (hasF ws hd gv)))) (some (.d (.str a))) (some (.d (.str b))) f1 gv) =
      some (.nx (stP hs ws hd n a5 (some (.d (.list (L.map nI)))) (some (.d (.list ((lateF ws hd gv a b).map nI)))) (some (.d (nI num))) (some (.d (HL (hasF ws hd gv)))) (some (.d (.str a))) (some (.d (.str b))) f2 gv)) := by
    by_cases c : (0 : Int) < d
    · refine ⟨lateF ws hd gv a b, fun p hp => lateF_sub hp, Nat.le_trans (List.length_filter_le _ _) (someF_len g.toOkG0), ?_⟩
      simp only [mSeq, mPut, mOp, mVar, mC, mIfS, mTest, mTr, mNot, mAsg, mgName, mgTup, mgSeq, mgCons, mgNil, mCB, mCons, mNil, mRet, mRetN, mNext, mPar, mParO, mParOO, mLstN, mAnd, mOr, mAndV, mOrV, mNotV, mIf, mTup, mLst, mSl, mPart, mNoPart, mCall, mCallK, mCallF, mDrop, mDat, mOwn, mListN, mUn, mStar, seqD, flat_l, flat_k, refs1_l, refs1_k, refsB_nil, refsB_cons, mApp, mPop0, mChain, mIsi, mRange, mItems, mEnum, mAnyI, mYes, seqOf, frz, isiB, truD, perm, List.filterMap_cons, List.filterMap_nil, AP.S.on, vw, vws, dats, wipeS, retD, vwE, gS_eq, sS_eq, st0, List.reduceReplicate, List.getElem?_cons_zero, List.getElem?_cons_succ, List.set_cons_zero, List.set_cons_succ, List.map_cons, List.map_nil, List.length_cons, List.length_nil, List.cons_append, List.nil_append, List.append_nil, and_self, and_true, true_and, if_true, if_false, decide_true, decide_false, Bool.and_self, Bool.and_true, Bool.true_and, Bool.not_true, Bool.not_false, Nat.reduceAdd, Nat.reduceSub, Nat.reduceLeDiff, Nat.reduceEqDiff, Nat.zero_add, Nat.zero_le, Int.reduceLT, Int.reduceNeg, stP, q2', gGtUI, decide_eq_true c]
    · refine ⟨someF ws hd gv a, fun p hp => hp, someF_len g.toOkG0, ?_⟩
      simp only [mSeq, mPut, mOp, mVar, mC, mIfS, mTest, mTr, mNot, mAsg, mgName, mgTup, mgSeq, mgCons, mgNil, mCB, mCons, mNil, mRet, mRetN, mNext, mPar, mParO, mParOO, mLstN, mAnd, mOr, mAndV, mOrV, mNotV, mIf, mTup, mLst, mSl, mPart, mNoPart, mCall, mCallK, mCallF, mDrop, mDat, mOwn, mListN, mUn, mStar, seqD, flat_l, flat_k, refs1_l, refs1_k, refsB_nil, refsB_cons, mApp, mPop0, mChain, mIsi, mRange, mItems, mEnum, mAnyI, mYes, seqOf, frz, isiB, truD, perm, List.filterMap_cons, List.filterMap_nil, AP.S.on, vw, vws, dats, wipeS, retD, vwE, gS_eq, sS_eq, st0, List.reduceReplicate, List.getElem?_cons_zero, List.getElem?_cons_succ, List.set_cons_zero, List.set_cons_succ, List.map_cons, List.map_nil, List.length_cons, List.length_nil, List.cons_append, List.nil_append, List.append_nil, and_self, and_true, true_and, if_true, if_false, decide_true, decide_false, Bool.and_self, Bool.and_true, Bool.true_and, Bool.not_true, Bool.not_false, Nat.reduceAdd, Nat.reduceSub, Nat.reduceLeDiff, Nat.reduceEqDiff, Nat.zero_add, Nat.zero_le, Int.reduceLT, Int.reduceNeg, stP, q2', gGtUI, decide_eq_false c]
  obtain ⟨L, hL, lL, s5⟩ := s5
  have fin : ∃ (f' : MO) (gv' : List Int), FeedOk f' ∧ OkG hs ws hd gv' ∧ (mIfS (mAnd (mTest (mOp gEq (mOp gIx (mVar 4) (mVar 8)) (mUn gNeg (mC (.int 1))))) (mTest (mOp gNe (mVar 6) (mLst mNil)))) (mPutL (mCallF 2 (runF 2 (m__law_any k)) (mCons (mVar 0) (mCons (mVar 6) mNil))) (mVar 4) (mVar 8)) mNext)
      (stP hs ws hd n a5 (some (.d (.list (L.map nI)))) (some (.d (.list ((lateF ws hd gv a b).map nI)))) (some (.d (nI num))) (some (.d (HL (hasF ws hd gv)))) (some (.d (.str a))) (some (.d (.str b))) f2 gv) =
      some (.nx (stP hs ws hd n a5 (some (.d (.list (L.map nI)))) (some (.d (.list ((lateF ws hd gv a b).map nI)))) (some (.d (nI num))) (some (.d (HL (hasF ws hd gv)))) (some (.d (.str a))) (some (.d (.str b))) f' gv')) := by
    by_cases c1 : gv[num] = -1
    · by_cases c2 : L = []
      · refine ⟨f2, gv, h2, g, ?_⟩
        have e0 : gNe (.list []) (.list []) = some (.bool false) := rfl
        subst c2
        simp only [mSeq, mPut, mOp, mVar, mC, mIfS, mTest, mTr, mNot, mAsg, mgName, mgTup, mgSeq, mgCons, mgNil, mCB, mCons, mNil, mRet, mRetN, mNext, mPar, mParO, mParOO, mLstN, mAnd, mOr, mAndV, mOrV, mNotV, mIf, mTup, mLst, mSl, mPart, mNoPart, mCall, mCallK, mCallF, mDrop, mDat, mOwn, mListN, mUn, mStar, seqD, flat_l, flat_k, refs1_l, refs1_k, refsB_nil, refsB_cons, mApp, mPop0, mChain, mIsi, mRange, mItems, mEnum, mAnyI, mYes, seqOf, frz, isiB, truD, perm, List.filterMap_cons, List.filterMap_nil, AP.S.on, vw, vws, dats, wipeS, retD, vwE, gS_eq, sS_eq, st0, List.reduceReplicate, List.getElem?_cons_zero, List.getElem?_cons_succ, List.set_cons_zero, List.set_cons_succ, List.map_cons, List.map_nil, List.length_cons, List.length_nil, List.cons_append, List.nil_append, List.append_nil, and_self, and_true, true_and, if_true, if_false, decide_true, decide_false, Bool.and_self, Bool.and_true, Bool.true_and, Bool.not_true, Bool.not_false, Nat.reduceAdd, Nat.reduceSub, Nat.reduceLeDiff, Nat.reduceEqDiff, Nat.zero_add, Nat.zero_le, Int.reduceLT, Int.reduceNeg, stP, gIxL, List.getElem?_map, eg, Option.map_some, c1, gNegI, PL.gEqI, beq_self_eq_true, e0]
      · obtain ⟨p, f3, q3, hp, h3⟩ := any_nat hk h2 c2 (by omega)
        obtain ⟨held, e1, e2⟩ := someF_reach g.toOkG0 (hL p hp)
        have ixn : ixN gv.length (num : Int) = some num := by unfold ixN; rw [if_pos (by omega), if_pos (by omega), Int.toNat_natCast]
        have ise : L.isEmpty = false := by cases L with
          | nil => exact absurd rfl c2
          | cons => rfl
        refine ⟨f3, gv.set num (p : Int), h3, g.put (by rw [eg, c1]) ew e1 e2, ?_⟩
        simp only [mSeq, mPut, mOp, mVar, mC, mIfS, mTest, mTr, mNot, mAsg, mgName, mgTup, mgSeq, mgCons, mgNil, mCB, mCons, mNil, mRet, mRetN, mNext, mPar, mParO, mParOO, mLstN, mAnd, mOr, mAndV, mOrV, mNotV, mIf, mTup, mLst, mSl, mPart, mNoPart, mCall, mCallK, mCallF, mDrop, mDat, mOwn, mListN, mUn, mStar, seqD, flat_l, flat_k, refs1_l, refs1_k, refsB_nil, refsB_cons, mApp, mPop0, mChain, mIsi, mRange, mItems, mEnum, mAnyI, mYes, seqOf, frz, isiB, truD, perm, List.filterMap_cons, List.filterMap_nil, AP.S.on, vw, vws, dats, wipeS, retD, vwE, gS_eq, sS_eq, st0, List.reduceReplicate, List.getElem?_cons_zero, List.getElem?_cons_succ, List.set_cons_zero, List.set_cons_succ, List.map_cons, List.map_nil, List.length_cons, List.length_nil, List.cons_append, List.nil_append, List.append_nil, and_self, and_true, true_and, if_true, if_false, decide_true, decide_false, Bool.and_self, Bool.and_true, Bool.true_and, Bool.not_true, Bool.not_false, Nat.reduceAdd, Nat.reduceSub, Nat.reduceLeDiff, Nat.reduceEqDiff, Nat.zero_add, Nat.zero_le, Int.reduceLT, Int.reduceNeg, stP, gIxL, List.getElem?_map, eg, Option.map_some, c1, gNegI, PL.gEqI, beq_self_eq_true, gNe_nilL (shpL_nats L), List.isEmpty_map, ise, mPutL, q3, List.length_map, ixn, List.map_set]
    · refine ⟨f2, gv, h2, g, ?_⟩
      simp only [mSeq, mPut, mOp, mVar, mC, mIfS, mTest, mTr, mNot, mAsg, mgName, mgTup, mgSeq, mgCons, mgNil, mCB, mCons, mNil, mRet, mRetN, mNext, mPar, mParO, mParOO, mLstN, mAnd, mOr, mAndV, mOrV, mNotV, mIf, mTup, mLst, mSl, mPart, mNoPart, mCall, mCallK, mCallF, mDrop, mDat, mOwn, mListN, mUn, mStar, seqD, flat_l, flat_k, refs1_l, refs1_k, refsB_nil, refsB_cons, mApp, mPop0, mChain, mIsi, mRange, mItems, mEnum, mAnyI, mYes, seqOf, frz, isiB, truD, perm, List.filterMap_cons, List.filterMap_nil, AP.S.on, vw, vws, dats, wipeS, retD, vwE, gS_eq, sS_eq, st0, List.reduceReplicate, List.getElem?_cons_zero, List.getElem?_cons_succ, List.set_cons_zero, List.set_cons_succ, List.map_cons, List.map_nil, List.length_cons, List.length_nil, List.cons_append, List.nil_append, List.append_nil, and_self, and_true, true_and, if_true, if_false, decide_true, decide_false, Bool.and_self, Bool.and_true, Bool.true_and, Bool.not_true, Bool.not_false, Nat.reduceAdd, Nat.reduceSub, Nat.reduceLeDiff, Nat.reduceEqDiff, Nat.zero_add, Nat.zero_le, Int.reduceLT, Int.reduceNeg, stP, gIxL, List.getElem?_map, eg, Option.map_some, gNegI, PL.gEqI, beq_eq_false_iff_ne.mpr c1]
  obtain ⟨f', gv', hf', g', fin⟩ := fin
  refine ⟨f', gv', some (.d (.list (L.map nI))), some (.d (.list ((lateF ws hd gv a b).map nI))), some (.d (nI num)), some (.d (HL (hasF ws hd gv))), some (.d (.str a)), some (.d (.str b)), ?_, hf', g'⟩
  unfold fb__law_plan_2
  exact seq_nx s1 (seq_nx s2 (seq_nx (s1 := stP hs ws hd n a5 (some (.d (.list ((someF ws hd gv a).map nI)))) a7 (some (.d (nI num))) (some (.d (HL (hasF ws hd gv)))) (some (.d (.str a))) (some (.d (.str b))) f1 gv) (by simp only [mSeq, mPut, mOp, mVar, mC, mIfS, mTest, mTr, mNot, mAsg, mgName, mgTup, mgSeq, mgCons, mgNil, mCB, mCons, mNil, mRet, mRetN, mNext, mPar, mParO, mParOO, mLstN, mAnd, mOr, mAndV, mOrV, mNotV, mIf, mTup, mLst, mSl, mPart, mNoPart, mCall, mCallK, mCallF, mDrop, mDat, mOwn, mListN, mUn, mStar, seqD, flat_l, flat_k, refs1_l, refs1_k, refsB_nil, refsB_cons, mApp, mPop0, mChain, mIsi, mRange, mItems, mEnum, mAnyI, mYes, seqOf, frz, isiB, truD, perm, List.filterMap_cons, List.filterMap_nil, AP.S.on, vw, vws, dats, wipeS, retD, vwE, gS_eq, sS_eq, st0, List.reduceReplicate, List.getElem?_cons_zero, List.getElem?_cons_succ, List.set_cons_zero, List.set_cons_succ, List.map_cons, List.map_nil, List.length_cons, List.length_nil, List.cons_append, List.nil_append, List.append_nil, and_self, and_true, true_and, if_true, if_false, decide_true, decide_false, Bool.and_self, Bool.and_true, Bool.true_and, Bool.not_true, Bool.not_false, Nat.reduceAdd, Nat.reduceSub, Nat.reduceLeDiff, Nat.reduceEqDiff, Nat.zero_add, Nat.zero_le, Int.reduceLT, Int.reduceNeg, stP, s3, h1.rf]) (seq_nx (s1 := stP hs ws hd n a5 (some (.d (.list ((someF ws hd gv a).map nI)))) (some (.d (.list ((lateF ws hd gv a b).map nI)))) (some (.d (nI num))) (some (.d (HL (hasF ws hd gv)))) (some (.d (.str a))) (some (.d (.str b))) f1 gv) (by simp only [mSeq, mPut, mOp, mVar, mC, mIfS, mTest, mTr, mNot, mAsg, mgName, mgTup, mgSeq, mgCons, mgNil, mCB, mCons, mNil, mRet, mRetN, mNext, mPar, mParO, mParOO, mLstN, mAnd, mOr, mAndV, mOrV, mNotV, mIf, mTup, mLst, mSl, mPart, mNoPart, mCall, mCallK, mCallF, mDrop, mDat, mOwn, mListN, mUn, mStar, seqD, flat_l, flat_k, refs1_l, refs1_k, refsB_nil, refsB_cons, mApp, mPop0, mChain, mIsi, mRange, mItems, mEnum, mAnyI, mYes, seqOf, frz, isiB, truD, perm, List.filterMap_cons, List.filterMap_nil, AP.S.on, vw, vws, dats, wipeS, retD, vwE, gS_eq, sS_eq, st0, List.reduceReplicate, List.getElem?_cons_zero, List.getElem?_cons_succ, List.set_cons_zero, List.set_cons_succ, List.map_cons, List.map_nil, List.length_cons, List.length_nil, List.cons_append, List.nil_append, List.append_nil, and_self, and_true, true_and, if_true, if_false, decide_true, decide_false, Bool.and_self, Bool.and_true, Bool.true_and, Bool.not_true, Bool.not_false, Nat.reduceAdd, Nat.reduceSub, Nat.reduceLeDiff, Nat.reduceEqDiff, Nat.zero_add, Nat.zero_le, Int.reduceLT, Int.reduceNeg, stP, s4, h1.rf]) (seq_nx s5 fin))))
theorem gNe_nilT {xs : List D} (h : shp (.tuple xs) = true) : gNe (.tuple xs) (.tuple []) = some (.bool (!xs.isEmpty)) := by
  have s2 : shp (.tuple []) = true := by decide +kernel
  unfold gNe
  simp only [h, s2, Bool.and_self, if_true, PyData.eqv]
  cases xs with
  | nil => rfl
  | cons a r => simp only [PyData.eqvAll, List.isEmpty_cons]
theorem shpT_prs (g : OkN hs ws) : shp (W ws) = true :=
  shp_of (by simp only [PyData.canLay0]; exact lay_prs g.nm g.wk) (by have := depth_prs ws; simp only [PyData.depth]; omega)
theorem own_ev {m : NM} {i : Nat} {s : S} {r : MO} {o' : List MO} (h : m s = some (r, o')) : mOwn m i s = some (.nx ⟨sS (some (.m o'.length)) s.σ i, o' ++ [r]⟩) := by
  unfold mOwn
  rw [h]
theorem rep_neg (n : Nat) : (List.replicate n [PyData.int (-1)]).flatten = (List.replicate n (-1 : Int)).map .int := by
  rw [List.map_replicate]
  induction n with
  | zero => rfl
  | succ m ih => simp [List.replicate_succ, ih]
theorem plan_rep (hs : List Str) (ws : List Wr) (hd : List (List Str)) (wl : ws.length ≤ 1000) (n : Nat) (fo : MO) : mRepN (mLst (mCons (mUn gNeg (mC (.int 1))) mNil)) (mCB gLen (mCons (mOp gIx (mVar 1) (mC (.int 1))) mNil)) (⟨[some (.m 0), some (.d (net hs ws)), some (.d (HL hd)), some (.d (.int n)), none, none, none, none, none, none, none, none, none], [fo]⟩ : S) = some (.l ((List.replicate ws.length (-1 : Int)).map .int), [fo]) := by
  have en : gIx (net hs ws) (.int 1) = some (W ws) := gIx1 _ _ _
  have e1 : (mLst (mCons (mUn gNeg (mC (.int 1))) mNil)) (⟨[some (.m 0), some (.d (net hs ws)), some (.d (HL hd)), some (.d (.int n)), none, none, none, none, none, none, none, none, none], [fo]⟩ : S) = some (.d (.list [.int (-1)]), [fo]) := by simp only [mSeq, mPut, mOp, mVar, mC, mIfS, mTest, mTr, mNot, mAsg, mgName, mgTup, mgSeq, mgCons, mgNil, mCB, mCons, mNil, mRet, mRetN, mNext, mPar, mParO, mParOO, mLstN, mAnd, mOr, mAndV, mOrV, mNotV, mIf, mTup, mLst, mSl, mPart, mNoPart, mCall, mCallK, mCallF, mDrop, mDat, mOwn, mListN, mUn, mStar, seqD, flat_l, flat_k, refs1_l, refs1_k, refsB_nil, refsB_cons, mApp, mPop0, mChain, mIsi, mRange, mItems, mEnum, mAnyI, mYes, seqOf, frz, isiB, truD, perm, List.filterMap_cons, List.filterMap_nil, AP.S.on, vw, vws, dats, wipeS, retD, vwE, gS_eq, sS_eq, st0, List.reduceReplicate, List.getElem?_cons_zero, List.getElem?_cons_succ, List.set_cons_zero, List.set_cons_succ, List.map_cons, List.map_nil, List.length_cons, List.length_nil, List.cons_append, List.nil_append, List.append_nil, and_self, and_true, true_and, if_true, if_false, decide_true, decide_false, Bool.and_self, Bool.and_true, Bool.true_and, Bool.not_true, Bool.not_false, Nat.reduceAdd, Nat.reduceSub, Nat.reduceLeDiff, Nat.reduceEqDiff, Nat.zero_add, Nat.zero_le, Int.reduceLT, Int.reduceNeg, gNegI]
  have e2 : (mCB gLen (mCons (mOp gIx (mVar 1) (mC (.int 1))) mNil)) (⟨[some (.m 0), some (.d (net hs ws)), some (.d (HL hd)), some (.d (.int n)), none, none, none, none, none, none, none, none, none], [fo]⟩ : S) = some (.d (.int ws.length), [fo]) := by simp only [mSeq, mPut, mOp, mVar, mC, mIfS, mTest, mTr, mNot, mAsg, mgName, mgTup, mgSeq, mgCons, mgNil, mCB, mCons, mNil, mRet, mRetN, mNext, mPar, mParO, mParOO, mLstN, mAnd, mOr, mAndV, mOrV, mNotV, mIf, mTup, mLst, mSl, mPart, mNoPart, mCall, mCallK, mCallF, mDrop, mDat, mOwn, mListN, mUn, mStar, seqD, flat_l, flat_k, refs1_l, refs1_k, refsB_nil, refsB_cons, mApp, mPop0, mChain, mIsi, mRange, mItems, mEnum, mAnyI, mYes, seqOf, frz, isiB, truD, perm, List.filterMap_cons, List.filterMap_nil, AP.S.on, vw, vws, dats, wipeS, retD, vwE, gS_eq, sS_eq, st0, List.reduceReplicate, List.getElem?_cons_zero, List.getElem?_cons_succ, List.set_cons_zero, List.set_cons_succ, List.map_cons, List.map_nil, List.length_cons, List.length_nil, List.cons_append, List.nil_append, List.append_nil, and_self, and_true, true_and, if_true, if_false, decide_true, decide_false, Bool.and_self, Bool.and_true, Bool.true_and, Bool.not_true, Bool.not_false, Nat.reduceAdd, Nat.reduceSub, Nat.reduceLeDiff, Nat.reduceEqDiff, Nat.zero_add, Nat.zero_le, Int.reduceLT, Int.reduceNeg, en, gLenT, List.length_map]
  rw [← rep_neg]
  exact repN_ev e1 e2 rfl rfl (Nat.le_trans wl (by decide)) (by rw [List.length_cons, List.length_nil, Nat.zero_add, Nat.one_mul]; exact Nat.le_trans wl (by decide))
theorem plan_s0 (hs : List Str) (ws : List Wr) (hd : List (List Str)) (wl : ws.length ≤ 1000) (n : Nat) (fo : MO) : (mOwn (mRepN (mLst (mCons (mUn gNeg (mC (.int 1))) mNil)) (mCB gLen (mCons (mOp gIx (mVar 1) (mC (.int 1))) mNil))) 4) (⟨[some (.m 0), some (.d (net hs ws)), some (.d (HL hd)), some (.d (.int n)), none, none, none, none, none, none, none, none, none], [fo]⟩ : S) =
      some (.nx (stP hs ws hd n none none none none none none none fo (List.replicate ws.length (-1)))) := by
  rw [own_ev (plan_rep hs ws hd wl n fo)]
  rfl
theorem plan_cnt (g : OkH hs ws hd) {n : Nat} (hn : n ≤ 100000) (fo : MO) : ∃ m : Nat, m ≤ 100000 ∧ (0 < m → ws ≠ []) ∧ mRange (mCons (mIf (mTest (mOp gNe (mOp gIx (mVar 1) (mC (.int 1))) (mTup mNil))) (mVar 3) (mC (.int 0))) mNil) (stP hs ws hd n none none none none none none none fo (List.replicate ws.length (-1))) = some ((List.range m).map nI, [fo, .l ((List.replicate ws.length (-1 : Int)).map .int)]) := by
  have en : gIx (net hs ws) (.int 1) = some (W ws) := gIx1 _ _ _
  have ne := gNe_nilT (shpT_prs g.toOkN)
  rw [List.isEmpty_map] at ne
  by_cases c : ws = []
  · have ise : ws.isEmpty = true := by rw [c]; rfl
    refine ⟨0, Nat.zero_le _, fun z => absurd z (by decide), mRange_nat 0 (Nat.zero_le _) _ _ _ ?_⟩
    simp only [mSeq, mPut, mOp, mVar, mC, mIfS, mTest, mTr, mNot, mAsg, mgName, mgTup, mgSeq, mgCons, mgNil, mCB, mCons, mNil, mRet, mRetN, mNext, mPar, mParO, mParOO, mLstN, mAnd, mOr, mAndV, mOrV, mNotV, mIf, mTup, mLst, mSl, mPart, mNoPart, mCall, mCallK, mCallF, mDrop, mDat, mOwn, mListN, mUn, mStar, seqD, flat_l, flat_k, refs1_l, refs1_k, refsB_nil, refsB_cons, mApp, mPop0, mChain, mIsi, mRange, mItems, mEnum, mAnyI, mYes, seqOf, frz, isiB, truD, perm, List.filterMap_cons, List.filterMap_nil, AP.S.on, vw, vws, dats, wipeS, retD, vwE, gS_eq, sS_eq, st0, List.reduceReplicate, List.getElem?_cons_zero, List.getElem?_cons_succ, List.set_cons_zero, List.set_cons_succ, List.map_cons, List.map_nil, List.length_cons, List.length_nil, List.cons_append, List.nil_append, List.append_nil, and_self, and_true, true_and, if_true, if_false, decide_true, decide_false, Bool.and_self, Bool.and_true, Bool.true_and, Bool.not_true, Bool.not_false, Nat.reduceAdd, Nat.reduceSub, Nat.reduceLeDiff, Nat.reduceEqDiff, Nat.zero_add, Nat.zero_le, Int.reduceLT, Int.reduceNeg, stP, en, ne, ise]
    rfl
  · have ise : ws.isEmpty = false := by cases ws with
      | nil => exact absurd rfl c
      | cons => rfl
    refine ⟨n, hn, fun _ => c, mRange_nat n hn _ _ _ ?_⟩
    simp only [mSeq, mPut, mOp, mVar, mC, mIfS, mTest, mTr, mNot, mAsg, mgName, mgTup, mgSeq, mgCons, mgNil, mCB, mCons, mNil, mRet, mRetN, mNext, mPar, mParO, mParOO, mLstN, mAnd, mOr, mAndV, mOrV, mNotV, mIf, mTup, mLst, mSl, mPart, mNoPart, mCall, mCallK, mCallF, mDrop, mDat, mOwn, mListN, mUn, mStar, seqD, flat_l, flat_k, refs1_l, refs1_k, refsB_nil, refsB_cons, mApp, mPop0, mChain, mIsi, mRange, mItems, mEnum, mAnyI, mYes, seqOf, frz, isiB, truD, perm, List.filterMap_cons, List.filterMap_nil, AP.S.on, vw, vws, dats, wipeS, retD, vwE, gS_eq, sS_eq, st0, List.reduceReplicate, List.getElem?_cons_zero, List.getElem?_cons_succ, List.set_cons_zero, List.set_cons_succ, List.map_cons, List.map_nil, List.length_cons, List.length_nil, List.cons_append, List.nil_append, List.append_nil, and_self, and_true, true_and, if_true, if_false, decide_true, decide_false, Bool.and_self, Bool.and_true, Bool.true_and, Bool.not_true, Bool.not_false, Nat.reduceAdd, Nat.reduceSub, Nat.reduceLeDiff, Nat.reduceEqDiff, Nat.zero_add, Nat.zero_le, Int.reduceLT, Int.reduceNeg, stP, en, ne, ise]
theorem plan {k : DC2} (hk : k.ok = true) {fo : MO} (h : FeedOk fo) (g : OkH hs ws hd) {n : Nat} (hn : n ≤ 100000) :
    ∃ (gv : List Int) (fo' : MO), runF 13 (m__law_plan k) fo [net hs ws, HL hd, .int (n : Int)] = some (IT gv, fo') ∧ OkG hs ws hd gv ∧ FeedOk fo' := by
  have wl := g.wl
  have en : gIx (net hs ws) (.int 1) = some (W ws) := gIx1 _ _ _
  have s0 := plan_s0 hs ws hd g.wl n fo
  obtain ⟨m, hm, mw, cnt⟩ := plan_cnt g hn fo
  have lp : ∃ s', fl__law_plan_3 k (stP hs ws hd n none none none none none none none fo (List.replicate ws.length (-1))) = some (.nx s') ∧
      ∃ (f : MO) (gv : List Int) (a5 a6 a7 a8 a9 a10 a11 : Option SV), s' = stP hs ws hd n a5 a6 a7 a8 a9 a10 a11 f gv ∧ FeedOk f ∧ OkG hs ws hd gv := by
    unfold fl__law_plan_3
    refine forT (s := stP hs ws hd n none none none none none none none fo (List.replicate ws.length (-1))) (o1 := [fo, .l ((List.replicate ws.length (-1 : Int)).map .int)]) nI (List.range m) (fun i s => ∃ (f : MO) (gv : List Int) (a5 a6 a7 a8 a9 a10 a11 : Option SV), s = stP hs ws hd n a5 a6 a7 a8 a9 a10 a11 f gv ∧ FeedOk f ∧ OkG hs ws hd gv)
      cnt ⟨fo, _, _, _, _, _, _, _, _, rfl, h, OkG.none g⟩ ?_
    rintro i x s hi ⟨f, gv, a5, a6, a7, a8, a9, a10, a11, rfl, hf, g⟩
    have hin : i < m := by
      have := (List.getElem?_eq_some_iff.mp hi).1
      simpa using this
    obtain ⟨f', gv', b6, b7, b8, b9, b10, b11, e, hf', g'⟩ := plan_step hk hf g (mw (by omega)) (n := n) (a5 := some (.d (nI x))) (a6 := a6) (a7 := a7) (a8 := a8) (a9 := a9) (a10 := a10) (a11 := a11)
    exact ⟨_, _, rfl, .inl e, f', gv', _, _, _, _, _, _, _, rfl, hf', g'⟩
  obtain ⟨s', e3, f, gv, a5, a6, a7, a8, a9, a10, a11, rfl, hf, g2⟩ := lp
  refine ⟨gv, f, h.run hf ?_, g2, hf⟩
  unfold m__law_plan
  refine (congrArg retF (show _ = some (.rt (.d (IT gv)) [f, .l (gv.map .int)]) from seq_nx s0 (seq_nx e3 ?_))).trans rfl
  simp only [mSeq, mPut, mOp, mVar, mC, mIfS, mTest, mTr, mNot, mAsg, mgName, mgTup, mgSeq, mgCons, mgNil, mCB, mCons, mNil, mRet, mRetN, mNext, mPar, mParO, mParOO, mLstN, mAnd, mOr, mAndV, mOrV, mNotV, mIf, mTup, mLst, mSl, mPart, mNoPart, mCall, mCallK, mCallF, mDrop, mDat, mOwn, mListN, mUn, mStar, seqD, flat_l, flat_k, refs1_l, refs1_k, refsB_nil, refsB_cons, mApp, mPop0, mChain, mIsi, mRange, mItems, mEnum, mAnyI, mYes, seqOf, frz, isiB, truD, perm, List.filterMap_cons, List.filterMap_nil, AP.S.on, vw, vws, dats, wipeS, retD, vwE, gS_eq, sS_eq, st0, List.reduceReplicate, List.getElem?_cons_zero, List.getElem?_cons_succ, List.set_cons_zero, List.set_cons_succ, List.map_cons, List.map_nil, List.length_cons, List.length_nil, List.cons_append, List.nil_append, List.append_nil, and_self, and_true, true_and, if_true, if_false, decide_true, decide_false, Bool.and_self, Bool.and_true, Bool.true_and, Bool.not_true, Bool.not_false, Nat.reduceAdd, Nat.reduceSub, Nat.reduceLeDiff, Nat.reduceEqDiff, Nat.zero_add, Nat.zero_le, Int.reduceLT, Int.reduceNeg, stP, gTupL]
end
end
end PF2

namespace PF2
noncomputable section
open PySem PySem.Spec PyProof.Rows L2 RZ AP PL
section
variable [Tbls] [Gd]
theorem case_run {G1 G2 G3 G4 : Fun2} {fo f1 f2 f3 f4 : MO} {A B C : Nat} {hs : List Str} {ws : List Wr} {hd : List (List Str)} {gv : List Int} {t : Nat} (e1 : G1 fo [.int (A : Int), .int (B : Int)] = some (net hs ws, f1)) (e2 : G2 f1 [net hs ws, .int (C : Int)] = some (HL hd, f2))
    (e3 : G3 f2 [.list [.int 0, .int 2, .int 4, .int ws.length, .int (2 * (ws.length : Int))]] = some (.int (t : Int), f3)) (e4 : G4 f3 [net hs ws, HL hd, .int (t : Int)] = some (IT gv, f4)) :
    (mSeq (mAsg (mCallF 3 G1 (mCons (mVar 0) (mCons (mVar 1) (mCons (mVar 2) mNil)))) (mgName 4)) (mSeq (mAsg (mCallF 3 G2 (mCons (mVar 0) (mCons (mVar 4) (mCons (mVar 3) mNil)))) (mgName 5)) (mSeq (mAsg (mCallF 2 G3 (mCons (mVar 0) (mCons (mLst (mCons (mC (.int 0)) (mCons (mC (.int 2)) (mCons (mC (.int 4)) (mCons (mCB gLen (mCons (mOp gIx (mVar 4) (mC (.int 1))) mNil)) (mCons (mOp gMul (mC (.int 2)) (mCB gLen (mCons (mOp gIx (mVar 4) (mC (.int 1))) mNil))) mNil)))))) mNil))) (mgName 6)) (mRet (mTup (mCons (mVar 4) (mCons (mVar 5) (mCons (mCallF 4 G4 (mCons (mVar 0) (mCons (mVar 4) (mCons (mVar 5) (mCons (mVar 6) mNil))))) mNil)))))))) (⟨[some (.m 0), some (.d (.int A)), some (.d (.int B)), some (.d (.int C)), none, none, none], [fo]⟩ : S) = some (.rt (.d (.tuple [net hs ws, HL hd, IT gv])) [f4]) := by
  have en : gIx (net hs ws) (.int 1) = some (W ws) := gIx1 _ _ _
  have mul2 : gMul (.int 2) (.int (ws.length : Int)) = some (.int (2 * (ws.length : Int))) := mul_l (by decide) (by decide)
  simp only [mSeq, mPut, mOp, mVar, mC, mIfS, mTest, mTr, mNot, mAsg, mgName, mgTup, mgSeq, mgCons, mgNil, mCB, mCons, mNil, mRet, mRetN, mNext, mPar, mParO, mParOO, mLstN, mAnd, mOr, mAndV, mOrV, mNotV, mIf, mTup, mLst, mSl, mPart, mNoPart, mCall, mCallK, mCallF, mDrop, mDat, mOwn, mListN, mUn, mStar, seqD, flat_l, flat_k, refs1_l, refs1_k, refsB_nil, refsB_cons, mApp, mPop0, mChain, mIsi, mRange, mItems, mEnum, mAnyI, mYes, seqOf, frz, isiB, truD, perm, List.filterMap_cons, List.filterMap_nil, AP.S.on, vw, vws, dats, wipeS, retD, vwE, gS_eq, sS_eq, st0, List.reduceReplicate, List.getElem?_cons_zero, List.getElem?_cons_succ, List.set_cons_zero, List.set_cons_succ, List.map_cons, List.map_nil, List.length_cons, List.length_nil, List.cons_append, List.nil_append, List.append_nil, and_self, and_true, true_and, if_true, if_false, decide_true, decide_false, Bool.and_self, Bool.and_true, Bool.true_and, Bool.not_true, Bool.not_false, Nat.reduceAdd, Nat.reduceSub, Nat.reduceLeDiff, Nat.reduceEqDiff, Nat.zero_add, Nat.zero_le, Int.reduceLT, Int.reduceNeg, e1, e2, en, gLenT, List.length_map, mul2, e3, e4]
theorem retF_of {m : SM} {s : S} {v : SV} {o : List MO} {r : Option (D × MO)} (h : m s = some (.rt v o)) (h2 : retF (some (.rt v o)) = r) : retF (m s) = r := by rw [h, h2]
theorem case {k : DC2} (hk : k.ok = true) {fo : MO} (h : FeedOk fo) {A B C : Nat} (a2 : 2 ≤ A) (a7 : A ≤ 12) (b9 : B ≤ 1000) (c9 : C ≤ 100) :
    ∃ (hs : List Str) (ws : List Wr) (hd : List (List Str)) (gv : List Int) (fo' : MO), runF 7 (m__law_case k) fo [.int (A : Int), .int (B : Int), .int (C : Int)] = some (.tuple [net hs ws, HL hd, IT gv], fo') ∧ OkG hs ws hd gv ∧ hs.length ≤ A ∧ ws.length ≤ B ∧ hd.length ≤ C ∧ FeedOk fo' := by
  obtain ⟨hs, ws, f1, e1, g, hA, wB, h1⟩ := grid hk h a2 a7 b9
  obtain ⟨hd, f2, e2, gh, hC, h2⟩ := stock hk h1 g (by omega) c9
  obtain ⟨t, f3, e3, ht, h3⟩ := any_nat hk h2 (L := [0, 2, 4, ws.length, 2 * ws.length]) (by simp) (by simp)
  have eL : ([0, 2, 4, ws.length, 2 * ws.length] : List Nat).map nI = [.int 0, .int 2, .int 4, .int ws.length, .int (2 * (ws.length : Int))] := by
    simp only [List.map_cons, List.map_nil, nI, Int.natCast_mul]
    rfl
  rw [eL] at e3
  obtain ⟨gv, f4, e4, g4, h4⟩ := plan hk h3 gh (n := t) (by
    simp at ht
    omega)
  refine ⟨hs, ws, hd, gv, f4, h.run h4 ?_, g4, hA, wB, hC, h4⟩
  exact retF_of (m := m__law_case k) (case_run (G1 := runF 9 (m__law_grid k)) (G2 := runF 7 (m__law_stock k)) (G3 := runF 2 (m__law_any k)) (G4 := runF 13 (m__law_plan k)) e1 e2 e3 e4) rfl
end
end
end PF2

namespace PL
noncomputable section
open PySem PySem.Spec PyProof.Rows L2 RZ AP
section
variable [Tbls] [Gd]
structure Sh (d : D) (w dp : Nat) : Prop where
  lay : d.canLay0 = true
  sw : d.showable = true
  wz : AP.wz d ≤ w
  dp : d.depth ≤ dp
theorem Sh.mono {d : D} {w w' dp dp' : Nat} (h : Sh d w dp) (h1 : w ≤ w') (h2 : dp ≤ dp') : Sh d w' dp' := ⟨h.lay, h.sw, Nat.le_trans h.wz h1, Nat.le_trans h.dp h2⟩
theorem nat_shown : ∀ i : Nat, i < 1000 → (PyData.shown (.int (i : Int))).length ≤ 3 ∧ (PyData.int (i : Int)).showable = true := by decide +kernel
theorem neg_shown : (PyData.shown (.int (-1))).length ≤ 3 ∧ (PyData.int (-1)).showable = true := by decide +kernel
theorem Sh.nat {k : Nat} (h : k < 1000) : Sh (nI k) 3 0 := by
  obtain ⟨h1, h2⟩ := nat_shown k h
  exact ⟨by simp only [PyData.canLay0], h2, by simp only [AP.wz]; exact h1, by simp [PyData.depth]⟩
theorem Sh.int {i : Int} (h1 : -1 ≤ i) (h : i < 1000) : Sh (.int i) 3 0 := by
  by_cases c : i = -1
  · subst c
    exact ⟨by simp only [PyData.canLay0], neg_shown.2, by simp only [AP.wz]; exact neg_shown.1, by simp [PyData.depth]⟩
  · obtain ⟨k, rfl⟩ := Int.eq_ofNat_of_zero_le (show 0 ≤ i by omega)
    exact Sh.nat (by omega)
theorem Sh.bool (b : Bool) : Sh (.bool b) 5 0 := by
  refine ⟨by simp only [PyData.canLay0], by simp only [PyData.showable], ?_, by simp [PyData.depth]⟩
  have : ∀ b : Bool, (PyData.shown (.bool b)).length ≤ 5 := by decide +kernel
  simp only [AP.wz]
  exact this b
theorem Sh.str {x : Str} (h : nameS x = true) : Sh (.str x) 82 0 := by
  refine ⟨by simp only [PyData.canLay0]; exact name_ok h, by simp only [PyData.showable], ?_, by simp [PyData.depth]⟩
  have := name_len h
  simp only [AP.wz]
  omega
theorem Sh.all {w dp : Nat} : ∀ {xs : List D}, (∀ d ∈ xs, Sh d w dp) → PyData.canLayAll0 xs = true ∧ PyData.showableAll xs = true ∧ AP.wzs xs ≤ xs.length * (w + 2) ∧ PyData.depthAll xs ≤ dp
  | [], _ => by simp [PyData.canLayAll0, PyData.showableAll, AP.wzs, PyData.depthAll]
  | x :: xs, h => by
    obtain ⟨h1, h2, h3, h4⟩ := Sh.all fun d hd => h d (List.mem_cons_of_mem _ hd)
    obtain ⟨g1, g2, g3, g4⟩ := h x List.mem_cons_self
    refine ⟨by simp only [PyData.canLayAll0, g1, h1, Bool.and_self], by simp only [PyData.showableAll, g2, h2, Bool.and_self], ?_, ?_⟩
    · simp only [AP.wzs, List.length_cons, Nat.succ_mul]
      omega
    · simp only [PyData.depthAll]
      omega
theorem Sh.tuple {w dp : Nat} {xs : List D} (h : ∀ d ∈ xs, Sh d w dp) {n : Nat} (hn : xs.length ≤ n) : Sh (.tuple xs) (n * (w + 2) + 6) (dp + 1) := by
  obtain ⟨h1, h2, h3, h4⟩ := Sh.all h
  have := Nat.mul_le_mul_right (w + 2) hn
  refine ⟨by simp only [PyData.canLay0]; exact h1, by simp only [PyData.showable]; exact h2, ?_, ?_⟩
  · simp only [AP.wz]
    omega
  · simp only [PyData.depth]
    omega
theorem Sh.list {w dp : Nat} {xs : List D} (h : ∀ d ∈ xs, Sh d w dp) {n : Nat} (hn : xs.length ≤ n) : Sh (.list xs) (n * (w + 2) + 6) (dp + 1) := by
  obtain ⟨h1, h2, h3, h4⟩ := Sh.all h
  have := Nat.mul_le_mul_right (w + 2) hn
  refine ⟨by simp only [PyData.canLay0]; exact h1, by simp only [PyData.showable]; exact h2, ?_, ?_⟩
  · simp only [AP.wz]
    omega
  · simp only [PyData.depth]
    omega
theorem Sh.tmap {α : Type} {en : α → D} {w dp : Nat} {xs : List α} (h : ∀ x ∈ xs, Sh (en x) w dp) {n : Nat} (hn : xs.length ≤ n) : Sh (.tuple (xs.map en)) (n * (w + 2) + 6) (dp + 1) :=
  Sh.tuple (fun d hd => by obtain ⟨x, hx, rfl⟩ := List.mem_map.mp hd; exact h x hx) (by rw [List.length_map]; exact hn)
theorem Sh.repr {d : D} {w dp : Nat} (h : Sh d w dp) (h1 : w ≤ 100000) (h2 : dp ≤ 60) : gRepr [d] = some (.str d.shown) := gRepr_ok h.lay h.sw (Nat.le_trans h.wz h1) (Nat.le_trans h.dp h2)
theorem Sh.shp {d : D} {w dp : Nat} (h : Sh d w dp) (h2 : dp ≤ 64) : AP.shp d = true := shp_of h.lay (Nat.le_trans h.dp h2)
theorem Sh.cons {d : D} {w dp : Nat} {xs : List D} (h : Sh d w dp) (t : ∀ x ∈ xs, Sh x w dp) : ∀ x ∈ d :: xs, Sh x w dp := fun x hx => (List.mem_cons.mp hx).elim (fun e => e ▸ h) (t x)
theorem Sh.nil {w dp : Nat} : ∀ x ∈ ([] : List D), Sh x w dp := fun x hx => absurd hx (by simp)
variable {hs : List Str} {ws : List Wr} {hd : List (List Str)} {gv : List Int}
theorem Sh.names {xs : List Str} (nm : ∀ x ∈ xs, nameS x = true) {n : Nat} (hn : xs.length ≤ n) : Sh (T xs) (n * 84 + 6) 1 := Sh.tmap (fun x hx => Sh.str (nm x hx)) hn
theorem Sh.pair {a b : Str} (ha : nameS a = true) (hb : nameS b = true) : Sh (pr (a, b)) 174 1 := Sh.tuple (Sh.cons (Sh.str ha) (Sh.cons (Sh.str hb) Sh.nil)) (n := 2) (Nat.le_refl 2)
theorem Sh.wires (g : OkN hs ws) {n : Nat} (hn : ws.length ≤ n) : Sh (W ws) (n * 176 + 6) 2 := Sh.tmap (fun x hx => by
  obtain ⟨h1, h2, _⟩ := g.wk x hx
  exact Sh.pair (g.nm _ h1) (g.nm _ h2)) hn
theorem Sh.net (g : OkN hs ws) {n m : Nat} (hn : hs.length ≤ n) (hm : ws.length ≤ m) : Sh (net hs ws) (2 * (n * 84 + m * 176 + 14) + 6) 3 :=
  Sh.tuple (Sh.cons ((Sh.names g.nm hn).mono (by omega) (by omega)) (Sh.cons ((Sh.wires g hm).mono (by omega) (by omega)) Sh.nil)) (n := 2) (Nat.le_refl 2)
theorem Sh.sets {hd : List (List Str)} (nm : ∀ a ∈ hs, nameS a = true) (h : ∀ x ∈ hd, x.Nodup ∧ ∀ a ∈ x, a ∈ hs) {n m : Nat} (hn : hs.length ≤ n) (hm : hd.length ≤ m) : Sh (HL hd) (m * (n * 84 + 8) + 6) 2 := by
  refine Sh.tmap (w := n * 84 + 6) (fun x hx => ?_) hm
  obtain ⟨h1, h2⟩ := h x hx
  exact Sh.names (fun a ha => nm a (h2 a ha)) (Nat.le_trans (nd_le h1 h2) hn)
theorem Sh.nats {xs : List Nat} (h : ∀ x ∈ xs, x < 1000) {n : Nat} (hn : xs.length ≤ n) : Sh (NT xs) (n * 5 + 6) 1 := Sh.tmap (fun x hx => Sh.nat (h x hx)) hn
theorem eqvAll_map {α : Type} [DecidableEq α] {en : α → D} (h : ∀ a b, PyData.eqv (en a) (en b) = decide (a = b)) : ∀ xs ys : List α, PyData.eqvAll (xs.map en) (ys.map en) = decide (xs = ys)
  | [], [] => by simp [PyData.eqvAll]
  | [], _ :: _ => by simp [PyData.eqvAll]
  | _ :: _, [] => by simp [PyData.eqvAll]
  | x :: xs, y :: ys => by
    simp only [List.map_cons, PyData.eqvAll, h x y, eqvAll_map h xs ys, List.cons.injEq, Bool.decide_and]
theorem eqv_s (a b : Str) : PyData.eqv (.str a) (.str b) = decide (a = b) := by rw [eqv_str]; by_cases h : a = b <;> simp [h]
theorem eqv_T (a b : List Str) : PyData.eqv (T a) (T b) = decide (a = b) := by unfold T; simp only [PyData.eqv]; exact eqvAll_map eqv_s a b
theorem eqv_HL (a b : List (List Str)) : PyData.eqv (HL a) (HL b) = decide (a = b) := by unfold HL; simp only [PyData.eqv]; exact eqvAll_map eqv_T a b
theorem gEq_shp {a b : D} (h1 : shp a = true) (h2 : shp b = true) (n : ∀ x y, ¬ (a = .str x ∧ b = .str y)) : gEq a b = some (.bool (PyData.eqv a b)) := by
  unfold gEq
  split
  · rename_i x y
    exact absurd ⟨rfl, rfl⟩ (n x y)
  · simp only [h1, h2, Bool.and_self, if_true]
theorem gEq_HL {a b : List (List Str)} (h1 : shp (HL a) = true) (h2 : shp (HL b) = true) : gEq (HL a) (HL b) = some (.bool (decide (a = b))) := by
  rw [gEq_shp h1 h2 (fun x y h => by cases h.1), eqv_HL]
end
end
end PL

namespace PL
noncomputable section
open PySem PySem.Spec PyProof.Rows L2 RZ AP
section
variable [Tbls] [Gd]
theorem gAddUT {xs ys : List D} (h : xs.length + ys.length ≤ 100000) : gAddU (.tuple xs) (.tuple ys) = some (.tuple (xs ++ ys)) := by
  unfold gAddU
  simp only [g2I, oel, gAddS, g2S, gAddL, gAddT]
  rw [if_pos h]
theorem gSl_take (xs : List D) (k : Nat) : gSl (.tuple xs) none (some (k : Int)) = some (.tuple (xs.take k)) := by
  show some (PyData.tuple (cutD xs none (some (k : Int)))) = _
  rw [cut_take _ (by omega), Int.toNat_natCast]
theorem gSl_drop (xs : List D) (k : Nat) : gSl (.tuple xs) (some ((k : Int) + 1)) none = some (.tuple (xs.drop (k + 1))) := by
  show some (PyData.tuple (cutD xs (some ((k : Int) + 1)) none)) = _
  rw [cut_drop _ (by omega), show ((k : Int) + 1).toNat = k + 1 by omega]
theorem nd_full {α : Type} [DecidableEq α] {xs ys : List α} (h1 : xs.Nodup) (h2 : ∀ x ∈ xs, x ∈ ys) (h3 : ys.length ≤ xs.length) {y : α} (hy : y ∈ ys) : y ∈ xs := by
  by_cases h : y ∈ xs
  · exact h
  · have := nd_le (xs := y :: xs) (hs := ys) (List.nodup_cons.mpr ⟨h, h1⟩) fun z hz => (List.mem_cons.mp hz).elim (fun e => e ▸ hy) (h2 z)
    rw [List.length_cons] at this
    omega
variable {hs : List Str} {ws : List Wr} {hd : List (List Str)} {gv : List Int}
theorem hasF_sub (g : OkG0 hs ws hd gv) : ∀ x ∈ hasF ws hd gv, x.Nodup ∧ ∀ a ∈ x, a ∈ hs := by
  intro x hx
  unfold hasF at hx
  obtain ⟨F, hF, rfl⟩ := List.mem_map.mp hx
  obtain ⟨h1, h2, _⟩ := CF_ok g hF
  exact ⟨(sortS_perm _).nodup_iff.mpr h1, fun a ha => h2 a (sort_mem.mp ha)⟩
theorem shp_has (g : OkG0 hs ws hd gv) : shp (HL (hasF ws hd gv)) = true := (Sh.sets g.nm (hasF_sub g) g.h6 (by rw [hasF_len]; exact g.ph)).shp (by decide)
theorem ledOf_free {k p : Nat} {q : Int} (e : gv[k]? = some (p : Int)) (h : q ≠ p) (h1 : q ≠ -1) : ledOf ws (gv.set k (-1)) q = ledOf ws gv q := by
  have hk := (List.getElem?_eq_some_iff.mp e).1
  unfold ledOf
  congr 1
  apply List.filter_congr
  rintro ⟨w, i⟩ _
  simp only [decide_eq_decide]
  by_cases c : k = i
  · subst c
    rw [List.getElem?_set_self hk, e]
    constructor
    · intro h2; exact absurd (Option.some.inj h2).symm h1
    · intro h2; exact absurd (Option.some.inj h2).symm h
  · rw [List.getElem?_set_ne c]
theorem Reach.free {held : List Str} {k : Nat} {q : Int} (h1 : q ≠ -1) {x : Str} (h : Reach ws held (gv.set k (-1)) q x) : Reach ws held gv q x := by
  induction h with
  | at_ ha => exact .at_ ha
  | @by_ j a b _ e1 e2 ih =>
    refine .by_ ih e1 ?_
    by_cases c : k = j
    · subst c
      by_cases hk : k < gv.length
      · rw [List.getElem?_set_self hk] at e2
        exact absurd (Option.some.inj e2).symm h1
      · rw [List.getElem?_eq_none (by rw [List.length_set]; omega)] at e2
        cases e2
    · rw [List.getElem?_set_ne c] at e2
      exact e2
theorem keys_free (g : OkG0 hs ws hd gv) {k p : Nat} (e : gv[k]? = some (p : Int)) {held : List Str} (hh : hd[p]? = some held) :
    sortS (keys (comersF ws held (gv.set k (-1)) p)) = sortS (keys (comersF ws held gv p)) ↔ (comersF ws held (gv.set k (-1)) p).length = (comersF ws held gv p).length := by
  have hm := List.mem_of_getElem? hh
  have u1 := comersF_ok (gv := gv.set k (-1)) (p := p) g.wk (up_nd (g.hu _ hm)) (g.hsub _ hm) g.hl
  have u2 := comersF_ok (gv := gv) (p := p) g.wk (up_nd (g.hu _ hm)) (g.hsub _ hm) g.hl
  have i1 := comers_iff (gv := gv.set k (-1)) (p := p) g.wk (up_nd (g.hu _ hm)) (g.hsub _ hm) g.hl
  have i2 := comers_iff (gv := gv) (p := p) g.wk (up_nd (g.hu _ hm)) (g.hsub _ hm) g.hl
  have sb : ∀ x ∈ keys (comersF ws held (gv.set k (-1)) p), x ∈ keys (comersF ws held gv p) := fun x hx => (i2 x).mpr (((i1 x).mp hx).free (by omega))
  constructor
  · intro h
    have := congrArg List.length h
    rw [(sortS_perm _).length_eq, (sortS_perm _).length_eq, keys_len, keys_len] at this
    exact this
  · intro h
    refine up_ext (sort_up u1.1.nd) (sort_up u2.1.nd) fun x => ?_
    rw [sort_mem, sort_mem]
    exact ⟨sb x, nd_full u1.1.nd sb (by rw [keys_len, keys_len]; omega)⟩
theorem idle_has (g : OkG0 hs ws hd gv) {k : Nat} {p : Int} (e : gv[k]? = some p) (h1 : p ≠ -1) : decide (hasF ws hd (gv.set k (-1)) = hasF ws hd gv) = idleB ws hd gv k := by
  obtain ⟨r1, r2⟩ := g.gr p (List.mem_of_getElem? e)
  obtain ⟨q, rfl⟩ := Int.eq_ofNat_of_zero_le (show 0 ≤ p by omega)
  have hq : q < hd.length := by omega
  have eh : hd[q]? = some hd[q] := List.getElem?_eq_getElem hq
  have ea : holdAt hd (q : Int) = hd[q] := by
    unfold holdAt
    rw [Int.toNat_natCast, List.getD_eq_getElem?_getD, eh]
    rfl
  have kf := keys_free g e eh
  have at_ : ∀ (gv' : List Int) (j : Nat) (held : List Str), hd[j]? = some held → (hasF ws hd gv')[j]? = some (sortS (keys (comersF ws held gv' j))) := fun gv' j held hj => by
    unfold hasF
    rw [List.getElem?_map, CF_get hj]
    rfl
  unfold idleB
  simp only [e, ea, decide_eq_decide]
  rw [← kf]
  constructor
  · intro h
    have h2 := at_ (gv.set k (-1)) q _ eh
    rw [h, at_ gv q _ eh] at h2
    exact (Option.some.inj h2).symm
  · intro h
    apply List.ext_getElem?
    intro j
    by_cases hj : j < hd.length
    · rw [at_ _ j _ (List.getElem?_eq_getElem hj), at_ _ j _ (List.getElem?_eq_getElem hj)]
      by_cases c : j = q
      · subst c
        rw [h]
      · have : comersF ws hd[j] (gv.set k (-1)) (j : Int) = comersF ws hd[j] gv (j : Int) := by
          unfold comersF
          rw [ledOf_free e (by omega) (by omega)]
        rw [this]
    · rw [List.getElem?_eq_none (by rw [hasF_len]; omega), List.getElem?_eq_none (by rw [hasF_len]; omega)]
theorem range_zip {α : Type} (xs : List α) (en : Nat → D) : (List.range xs.length).map en = xs.zipIdx.map fun q => en q.2 := by
  have h : xs.zipIdx.map Prod.snd = List.range xs.length := by
    rw [List.range_eq_range', ← List.zipIdx_map_snd 0 xs]
  rw [← h, List.map_map]
  rfl
theorem fold_given (c : Int × Nat → Bool) : ∀ (l : List (Int × Nat)) (acc : List Nat), l.foldl (fun acc q => if c q = true then acc ++ [q.2] else acc) acc = acc ++ (l.filter c).map (·.2)
  | [], acc => by simp
  | q :: r, acc => by
    rw [List.foldl_cons]
    cases h : c q with
    | true => rw [if_pos rfl, fold_given c r, List.filter_cons_of_pos h, List.map_cons, List.append_assoc]; rfl
    | false => rw [if_neg (by decide), fold_given c r, List.filter_cons_of_neg (by rw [h]; decide)]
theorem idleF_eq : idleF ws hd gv = (gv.zipIdx.filter fun q => !(q.1 == -1) && idleB ws hd gv q.2).map (·.2) := by
  unfold idleF givenF
  rw [List.filter_map, List.filter_filter]
  congr 1
  apply List.filter_congr
  intro q _
  exact Bool.and_comm _ _
end
end
end PL

namespace PL
noncomputable section
open PySem PySem.Spec PyProof.Rows L2 RZ AP
section
variable [Tbls] [Gd]
variable {hs : List Str} {ws : List Wr} {hd : List (List Str)} {gv gv' : List Int} {held : List Str} {p : Nat} {F : Fd}
theorem key_pw (nd : (keys F).Nodup) : F.Pairwise fun x y => x.1 ≠ y.1 := by
  unfold keys at nd
  exact List.pairwise_map.mp nd
theorem key_uniq (nd : (keys F).Nodup) {b : Str} {v v' : Int} (h : (b, v) ∈ F) (h' : (b, v') ∈ F) : v = v' := by
  induction F with
  | nil => cases h
  | cons e r ih =>
    have nd' : (keys r).Nodup := (List.nodup_cons.mp nd).2
    have ne : e.1 ∉ keys r := (List.nodup_cons.mp nd).1
    rcases List.mem_cons.mp h with h1 | h1
    · rcases List.mem_cons.mp h' with h2 | h2
      · exact (Prod.mk.inj (h1.trans h2.symm)).2
      · exact absurd (List.mem_map.mpr ⟨_, h2, rfl⟩) (by rw [← h1] at ne; exact ne)
    · rcases List.mem_cons.mp h' with h2 | h2
      · exact absurd (List.mem_map.mpr ⟨_, h1, rfl⟩) (by rw [← h2] at ne; exact ne)
      · exact ih nd' h1 h2
theorem Comes.neg (c : Comes (ledOf ws gv p) held F) {b : Str} : (b, -1) ∈ F ↔ b ∈ held := by
  constructor
  · intro h
    obtain ⟨i, hi, e⟩ := List.getElem_of_mem h
    rcases c.src i b (-1) (by rw [List.getElem?_eq_getElem hi, e]) with h | ⟨n, a, h, _⟩
    · exact h.2
    · omega
  · exact c.hd b
theorem Comes.pos (c : Comes (ledOf ws gv p) held F) {b : Str} {v : Int} (h : (b, v) ∈ F) (h1 : v ≠ -1) : ∃ (n : Nat) (a : Str), v = n ∧ ws[n]? = some (a, b) ∧ gv[n]? = some (p : Int) ∧ a ∈ keys F := by
  obtain ⟨i, hi, e⟩ := List.getElem_of_mem h
  rcases c.src i b v (by rw [List.getElem?_eq_getElem hi, e]) with h | ⟨n, a, h2, h3, j, hj, k', h4⟩
  · exact absurd h.1 h1
  · obtain ⟨e1, e2⟩ := ledOf_mem.mp h3
    exact ⟨n, a, h2, e1, e2, List.mem_map.mpr ⟨_, List.mem_of_getElem? h4, rfl⟩⟩
def treeIdx (F : Fd) : List Nat := (F.filter fun e => !(e.2 == -1)).map fun e => e.2.toNat
theorem Comes.tree_mem (c : Comes (ledOf ws gv p) held F) {n : Nat} : n ∈ treeIdx F ↔ ∃ b, (b, (n : Int)) ∈ F := by
  unfold treeIdx
  simp only [List.mem_map, List.mem_filter, Bool.not_eq_true', beq_eq_false_iff_ne]
  constructor
  · rintro ⟨⟨b, v⟩, ⟨h1, h2⟩, rfl⟩
    obtain ⟨m, _, e, _⟩ := c.pos h1 h2
    subst e
    exact ⟨b, by simpa using h1⟩
  · rintro ⟨b, h⟩
    exact ⟨(b, (n : Int)), ⟨h, by simp only; omega⟩, by simp⟩
theorem Comes.tree_led (c : Comes (ledOf ws gv p) held F) {n : Nat} (h : n ∈ treeIdx F) : ∃ a b, ws[n]? = some (a, b) ∧ gv[n]? = some (p : Int) ∧ (b, (n : Int)) ∈ F ∧ a ∈ keys F := by
  obtain ⟨b, hb⟩ := c.tree_mem.mp h
  obtain ⟨m, a, e, e1, e2, e3⟩ := c.pos hb (by omega)
  have e4 : n = m := by omega
  subst e4
  exact ⟨a, b, e1, e2, hb, e3⟩
theorem Comes.tree_nd (c : Comes (ledOf ws gv p) held F) : (treeIdx F).Nodup := by
  unfold treeIdx
  refine List.pairwise_map.mpr ?_
  refine List.Pairwise.imp_of_mem ?_ ((key_pw c.nd).filter _)
  rintro ⟨b, v⟩ ⟨b', v'⟩ h1 h2 ne e
  obtain ⟨h1, q1⟩ := List.mem_filter.mp h1
  obtain ⟨h2, q2⟩ := List.mem_filter.mp h2
  simp only [Bool.not_eq_true', beq_eq_false_iff_ne] at q1 q2
  obtain ⟨n, a, e1, w1, _⟩ := c.pos h1 q1
  obtain ⟨m, a', e2, w2, _⟩ := c.pos h2 q2
  subst e1 e2
  have : n = m := by simpa using e
  subst this
  rw [w1] at w2
  exact ne (Prod.mk.inj (Option.some.inj w2)).2
theorem Comes.tree_len (c : Comes (ledOf ws gv p) held F) (hn : held.Nodup) : (treeIdx F).length + held.length = F.length := by
  have e1 : (F.filter fun e => e.2 == -1).length = held.length := by
    have k : ((F.filter fun e => e.2 == -1).map (·.1)).Nodup := List.pairwise_map.mpr ((key_pw c.nd).filter _)
    have s1 : ∀ x ∈ (F.filter fun e => e.2 == -1).map (·.1), x ∈ held := by
      intro x hx
      obtain ⟨⟨b, v⟩, h, rfl⟩ := List.mem_map.mp hx
      obtain ⟨h1, h2⟩ := List.mem_filter.mp h
      have : v = -1 := by simpa using h2
      subst this
      exact c.neg.mp h1
    have s2 : ∀ x ∈ held, x ∈ (F.filter fun e => e.2 == -1).map (·.1) := fun x hx => List.mem_map.mpr ⟨(x, -1), List.mem_filter.mpr ⟨c.neg.mpr hx, rfl⟩, rfl⟩
    have := nd_le k s1
    have := nd_le hn s2
    rw [List.length_map] at *
    omega
  have e2 : F.length = (F.filter fun e => e.2 == -1).length + (F.filter fun e => !(e.2 == -1)).length := by
    clear e1 c hn
    induction F with
    | nil => rfl
    | cons x r ih =>
      cases h : x.2 == -1 with
      | true => rw [List.filter_cons_of_pos (by simpa using h), List.filter_cons_of_neg (by simp [h]), List.length_cons, List.length_cons, ih]; omega
      | false => rw [List.filter_cons_of_neg (by simp [h]), List.filter_cons_of_pos (by simp [h]), List.length_cons, List.length_cons, ih]; omega
  unfold treeIdx
  rw [List.length_map]
  omega
def ledIdx (ws : List Wr) (gv : List Int) (p : Int) : List Nat := (List.range ws.length).filter fun i => decide (gv[i]? = some p)
theorem ledIdx_mem {p : Int} {n : Nat} (gl : gv.length = ws.length) : n ∈ ledIdx ws gv p ↔ gv[n]? = some p := by
  unfold ledIdx
  rw [List.mem_filter, List.mem_range, decide_eq_true_eq]
  exact ⟨fun h => h.2, fun h => ⟨by rw [← gl]; exact (List.getElem?_eq_some_iff.mp h).1, h⟩⟩
theorem ledIdx_nd {p : Int} : (ledIdx ws gv p).Nodup := List.nodup_range.filter _
theorem cnt_zip (f : Int → Bool) : ∀ (gv : List Int) (k : Nat), (gv.zipIdx k).countP (fun q => f q.1) = gv.countP f
  | [], _ => rfl
  | x :: r, k => by
    rw [List.zipIdx_cons, List.countP_cons, List.countP_cons, cnt_zip f r]
theorem ledIdx_len {p : Int} (gl : gv.length = ws.length) : (ledIdx ws gv p).length = gv.countP (· == p) := by
  have e1 : (gv.zipIdx.filter fun q => q.1 == p).map (·.2) = ledIdx ws gv p := by
    have e2 : (gv.zipIdx.filter fun q => q.1 == p) = gv.zipIdx.filter fun q => decide (gv[q.2]? = some p) := by
      apply List.filter_congr
      rintro ⟨x, i⟩ h
      have := List.mem_zipIdx_iff_getElem?.mp h
      simp only at this
      simp only [this]
      rw [Bool.eq_iff_iff, beq_iff_eq, decide_eq_true_eq, Option.some.injEq]
    rw [e2]
    have : gv.zipIdx.filter (fun q => decide (gv[q.2]? = some p)) = gv.zipIdx.filter ((fun i => decide (gv[i]? = some p)) ∘ Prod.snd) := rfl
    unfold ledIdx
    rw [this, ← List.filter_map, ← gl]
    congr 1
    rw [List.range_eq_range', ← List.zipIdx_map_snd 0 gv]
  rw [← e1, List.length_map, ← List.countP_eq_length_filter, cnt_zip (fun x => x == p)]
theorem Comes.reach_tree (c : Comes (ledOf ws gv p) held F) (h : ∀ n ∈ treeIdx F, gv'[n]? = some (p : Int)) : ∀ (i : Nat) (b : Str) (v : Int), F[i]? = some (b, v) → Reach ws held gv' p b := by
  intro i
  induction i using Nat.strongRecOn with
  | ind i ih =>
    intro b v e
    rcases c.src i b v e with ⟨_, hb⟩ | ⟨n, a, h1, h2, j, hj, k', h3⟩
    · exact .at_ hb
    · obtain ⟨e1, e2⟩ := ledOf_mem.mp h2
      subst h1
      exact .by_ (ih j hj a k' h3) e1 (h n (c.tree_mem.mpr ⟨b, List.mem_of_getElem? e⟩))
theorem Reach.sub {q : Int} (h : ∀ n : Nat, gv'[n]? = some q → gv[n]? = some q) {x : Str} (r : Reach ws held gv' q x) : Reach ws held gv q x := by
  induction r with
  | at_ ha => exact .at_ ha
  | by_ _ h1 h2 ih => exact .by_ ih h1 (h _ h2)
end
section
variable {hs : List Str} {ws : List Wr} {hd : List (List Str)} {gv gv' : List Int}
def Fewer (gv' gv : List Int) : Prop := ∀ (n : Nat) (q : Int), q ≠ -1 → gv'[n]? = some q → gv[n]? = some q
variable [Tbls] [Gd]
def fdOf (ws : List Wr) (hd : List (List Str)) (gv : List Int) (p : Nat) : Fd := comersF ws (hd.getD p []) gv p
theorem fdOf_c (g : OkG0 hs ws hd gv) {p : Nat} {held : List Str} (e : hd[p]? = some held) : fdOf ws hd gv p = comersF ws held gv p ∧ Comes (ledOf ws gv p) held (fdOf ws hd gv p) ∧ held.Nodup ∧ ∀ a ∈ held, a ∈ hs := by
  have e1 : fdOf ws hd gv p = comersF ws held gv p := by unfold fdOf; rw [List.getD_eq_getElem?_getD, e]; rfl
  have hm := List.mem_of_getElem? e
  rw [e1]
  exact ⟨rfl, (comersF_ok g.wk (up_nd (g.hu _ hm)) (g.hsub _ hm) g.hl).1, up_nd (g.hu _ hm), g.hsub _ hm⟩
theorem has_at (gv : List Int) {j : Nat} {held : List Str} (hj : hd[j]? = some held) : (hasF ws hd gv)[j]? = some (sortS (keys (comersF ws held gv j))) := by
  unfold hasF
  rw [List.getElem?_map, CF_get hj]
  rfl
theorem has_reach (g : OkG0 hs ws hd gv) {p : Nat} {held : List Str} (e : hd[p]? = some held) {x : Str} : x ∈ keys (fdOf ws hd gv p) ↔ Reach ws held gv p x := by
  rw [(fdOf_c g e).1]
  have hm := List.mem_of_getElem? e
  exact comers_iff g.wk (up_nd (g.hu _ hm)) (g.hsub _ hm) g.hl x
theorem has_same (g : OkG0 hs ws hd gv) (g' : OkG0 hs ws hd gv') (h : ∀ (p : Nat) (held : List Str), hd[p]? = some held → ∀ x, Reach ws held gv' p x ↔ Reach ws held gv p x) : hasF ws hd gv' = hasF ws hd gv := by
  apply List.ext_getElem?
  intro j
  by_cases hj : j < hd.length
  · have e := List.getElem?_eq_getElem hj
    rw [has_at gv' e, has_at gv e]
    have hm := List.mem_of_getElem? e
    congr 1
    refine up_ext (sort_up (comersF_ok g.wk (up_nd (g.hu _ hm)) (g.hsub _ hm) g.hl).1.nd) (sort_up (comersF_ok g.wk (up_nd (g.hu _ hm)) (g.hsub _ hm) g.hl).1.nd) fun x => ?_
    rw [sort_mem, sort_mem, comers_iff g.wk (up_nd (g.hu _ hm)) (g.hsub _ hm) g.hl, comers_iff g.wk (up_nd (g.hu _ hm)) (g.hsub _ hm) g.hl]
    exact h j _ e x
  · rw [List.getElem?_eq_none (by rw [hasF_len]; omega), List.getElem?_eq_none (by rw [hasF_len]; omega)]
theorem same_has (g : OkG0 hs ws hd gv) (g' : OkG0 hs ws hd gv') (h : hasF ws hd gv' = hasF ws hd gv) (p : Nat) (held : List Str) (e : hd[p]? = some held) (x : Str) : Reach ws held gv' p x ↔ Reach ws held gv p x := by
  have hm := List.mem_of_getElem? e
  have q := has_at (ws := ws) gv' e
  rw [h, has_at gv e] at q
  have q := Option.some.inj q
  rw [← comers_iff g.wk (up_nd (g.hu _ hm)) (g.hsub _ hm) g.hl, ← comers_iff g.wk (up_nd (g.hu _ hm)) (g.hsub _ hm) g.hl, ← sort_mem, ← q, sort_mem]
theorem OkG.fewer (g : OkG hs ws hd gv) (g' : OkG0 hs ws hd gv') (f : Fewer gv' gv) (h : hasF ws hd gv' = hasF ws hd gv) : OkG hs ws hd gv' :=
  ⟨g', fun k p a b held e1 e2 e3 => (same_has g.toOkG0 g' h p held e3 a).mpr (g.gs k p a b held (f k p (by omega) e1) e2 e3)⟩
theorem fewer_set {k : Nat} : Fewer (gv.set k (-1)) gv := by
  intro n q hq e
  by_cases c : k = n
  · subst c
    by_cases hk : k < gv.length
    · rw [List.getElem?_set_self hk] at e
      exact absurd (Option.some.inj e).symm hq
    · rw [List.getElem?_eq_none (by rw [List.length_set]; omega)] at e
      cases e
  · rw [List.getElem?_set_ne c] at e
    exact e
theorem has_kept (g : OkG0 hs ws hd gv) (g' : OkG0 hs ws hd gv') (f : Fewer gv' gv) (h : ∀ (p n : Nat), p < hd.length → n ∈ treeIdx (fdOf ws hd gv p) → gv'[n]? = some (p : Int)) : hasF ws hd gv' = hasF ws hd gv := by
  refine has_same g g' fun p held e x => ⟨Reach.sub fun n => f n p (by omega), fun r => ?_⟩
  have hx := (has_reach g e).mpr r
  obtain ⟨⟨b, v⟩, hb, rfl⟩ := List.mem_map.mp hx
  obtain ⟨i, hi, e2⟩ := List.getElem_of_mem hb
  exact (fdOf_c g e).2.1.reach_tree (h p · (List.getElem?_eq_some_iff.mp e).1) i b v (by rw [List.getElem?_eq_getElem hi, e2])
def allTree (ws : List Wr) (hd : List (List Str)) (gv : List Int) : Prop := ∀ (p n : Nat), p < hd.length → gv[n]? = some (p : Int) → n ∈ treeIdx (fdOf ws hd gv p)
theorem tree_le (g : OkG0 hs ws hd gv) {p : Nat} (hp : p < hd.length) : (treeIdx (fdOf ws hd gv p)).length ≤ gv.countP (· == (p : Int)) ∧ ((treeIdx (fdOf ws hd gv p)).length = gv.countP (· == (p : Int)) ↔ ∀ n : Nat, gv[n]? = some (p : Int) → n ∈ treeIdx (fdOf ws hd gv p)) := by
  obtain ⟨_, c, _, _⟩ := fdOf_c g (List.getElem?_eq_getElem hp)
  have s : ∀ n ∈ treeIdx (fdOf ws hd gv p), n ∈ ledIdx ws gv (p : Int) := fun n hn => by
    obtain ⟨a, b, _, h, _⟩ := c.tree_led hn
    exact (ledIdx_mem g.gl).mpr h
  have le := nd_le c.tree_nd s
  rw [ledIdx_len g.gl] at le
  refine ⟨le, fun e n hn => ?_, fun h => ?_⟩
  · exact nd_full c.tree_nd s (by rw [ledIdx_len g.gl]; omega) ((ledIdx_mem g.gl).mpr hn)
  · have := nd_le (ledIdx_nd (ws := ws) (gv := gv) (p := (p : Int))) fun n hn => h n ((ledIdx_mem g.gl).mp hn)
    rw [ledIdx_len g.gl] at this
    omega
def sumN (xs : List Nat) : Nat := xs.foldr (· + ·) 0
def comeT (ws : List Wr) (hd : List (List Str)) (gv : List Int) : Nat := sumN ((List.range hd.length).map fun p => (treeIdx (fdOf ws hd gv p)).length)
def givenT (gv : List Int) : Nat := gv.countP fun x => !(x == -1)
theorem sumN_add (f g : Nat → Nat) : ∀ l : List Nat, sumN (l.map fun p => f p + g p) = sumN (l.map f) + sumN (l.map g)
  | [] => rfl
  | x :: r => by
    have := sumN_add f g r
    simp only [List.map_cons, sumN, List.foldr_cons] at *
    omega
theorem sumN_one (x : Int) : ∀ P : Nat, -1 ≤ x → x < P → sumN ((List.range P).map fun p : Nat => if (x == (p : Int)) = true then 1 else 0) = if (!(x == -1)) = true then 1 else 0 := by
  have app : ∀ a b : List Nat, sumN (a ++ b) = sumN a + sumN b := fun a b => by
    unfold sumN
    induction a with
    | nil => simp
    | cons x r ih => simp only [List.cons_append, List.foldr_cons, ih]; omega
  have z : ∀ P : Nat, (∀ p : Nat, p < P → x ≠ p) → sumN ((List.range P).map fun p : Nat => if (x == (p : Int)) = true then 1 else 0) = 0 := by
    intro P h
    induction P with
    | zero => rfl
    | succ P ih =>
      rw [List.range_succ, List.map_append, app, ih fun p hp => h p (by omega)]
      have : (x == (P : Int)) = false := beq_eq_false_iff_ne.mpr (h P (by omega))
      show 0 + sumN [if (x == (P : Int)) = true then 1 else 0] = 0
      rw [this]
      rfl
  intro P
  induction P with
  | zero =>
    intro h1 h2
    have : x = -1 := by omega
    subst this
    rfl
  | succ P ih =>
    intro h1 h2
    rw [List.range_succ, List.map_append, app]
    by_cases c : x = P
    · rw [z P fun p hp => by omega]
      subst c
      have : ((P : Int) == -1) = false := beq_eq_false_iff_ne.mpr (by omega)
      simp [sumN, this]
    · rw [ih h1 (by omega)]
      have : (x == (P : Int)) = false := beq_eq_false_iff_ne.mpr c
      show _ + sumN [if (x == (P : Int)) = true then 1 else 0] = _
      rw [this]
      rfl
theorem given_sum (P : Nat) : ∀ gv : List Int, (∀ x ∈ gv, -1 ≤ x ∧ x < P) → givenT gv = sumN ((List.range P).map fun p : Nat => gv.countP (· == (p : Int)))
  | [], _ => by
    have : ∀ l : List Nat, sumN (l.map fun p : Nat => ([] : List Int).countP (· == (p : Int))) = 0 := fun l => by
      induction l with
      | nil => rfl
      | cons x r ih => simpa [sumN] using ih
    rw [this]
    rfl
  | x :: r, h => by
    have i := given_sum P r fun y hy => h y (List.mem_cons_of_mem _ hy)
    obtain ⟨h1, h2⟩ := h x List.mem_cons_self
    have o := sumN_one x P h1 h2
    unfold givenT at *
    rw [List.countP_cons, i, ← o, ← sumN_add]
    congr 1
    apply List.map_congr_left
    intro p _
    rw [List.countP_cons]
theorem sumN_le {f g : Nat → Nat} : ∀ {l : List Nat}, (∀ p ∈ l, f p ≤ g p) → sumN (l.map f) ≤ sumN (l.map g) ∧ (sumN (l.map f) = sumN (l.map g) ↔ ∀ p ∈ l, f p = g p)
  | [], _ => by simp [sumN]
  | x :: r, h => by
    obtain ⟨i1, i2⟩ := sumN_le (l := r) fun p hp => h p (List.mem_cons_of_mem _ hp)
    have hx := h x List.mem_cons_self
    simp only [List.map_cons, sumN, List.foldr_cons] at *
    refine ⟨by omega, ⟨fun e p hp => ?_, fun e => ?_⟩⟩
    · rcases List.mem_cons.mp hp with rfl | hp
      · omega
      · exact i2.mp (by omega) p hp
    · have := i2.mpr fun p hp => e p (List.mem_cons_of_mem _ hp)
      have := e x List.mem_cons_self
      omega
theorem come_le (g : OkG0 hs ws hd gv) : comeT ws hd gv ≤ givenT gv ∧ (comeT ws hd gv = givenT gv ↔ allTree ws hd gv) := by
  rw [given_sum hd.length gv g.gr]
  obtain ⟨i1, i2⟩ := sumN_le (l := List.range hd.length) (f := fun p => (treeIdx (fdOf ws hd gv p)).length) (g := fun p => gv.countP (· == (p : Int))) fun p hp => (tree_le g (List.mem_range.mp hp)).1
  refine ⟨i1, i2.trans ⟨fun h p n hp hn => (tree_le g hp).2.mp (h p (List.mem_range.mpr hp)) n hn, fun h p hp => (tree_le g (List.mem_range.mp hp)).2.mpr fun n hn => h p n (List.mem_range.mp hp) hn⟩⟩
theorem idle_of (g : OkG0 hs ws hd gv) {k p : Nat} (e : gv[k]? = some (p : Int)) (h : k ∉ treeIdx (fdOf ws hd gv p)) : idleB ws hd gv k = true := by
  rw [← idle_has g e (by omega), decide_eq_true_eq]
  refine has_kept g (set_gr g k) fewer_set fun q n hq hn => ?_
  obtain ⟨a, b, _, h2, _⟩ := (fdOf_c g (List.getElem?_eq_getElem hq)).2.1.tree_led hn
  by_cases c : k = n
  · subst c
    rw [e] at h2
    have : p = q := by have := Option.some.inj h2; omega
    subst this
    exact absurd hn h
  · rw [List.getElem?_set_ne c]
    exact h2
theorem not_idle (g : OkG0 hs ws hd gv) (a : allTree ws hd gv) {k p : Nat} (e : gv[k]? = some (p : Int)) : idleB ws hd gv k = false := by
  have hp : p < hd.length := by have := (g.gr _ (List.mem_of_getElem? e)).2; omega
  have eh := List.getElem?_eq_getElem hp
  obtain ⟨e0, c, hn, _⟩ := fdOf_c g eh
  cases h : idleB ws hd gv k with
  | false => rfl
  | true =>
    rw [← idle_has g e (by omega), decide_eq_true_eq] at h
    obtain ⟨s, t, w1, _, hb, _⟩ := c.tree_led (a p k hp e)
    have r := (same_has g (set_gr g k) h p _ eh t).mpr ((has_reach g eh).mp (List.mem_map.mpr ⟨_, hb, rfl⟩))
    cases r with
    | at_ ht => exact absurd (key_uniq c.nd hb (c.neg.mpr ht)) (by omega)
    | @by_ j u _ _ w2 e2 =>
      have e3 := fewer_set j p (by omega) e2
      obtain ⟨u', t', w3, _, hb2, _⟩ := c.tree_led (a p j hp e3)
      rw [w2] at w3
      have := (Prod.mk.inj (Option.some.inj w3)).2
      subst this
      have := key_uniq c.nd hb hb2
      have e5 : k = j := by omega
      subst e5
      rw [List.getElem?_set_self (List.getElem?_eq_some_iff.mp e).1] at e2
      have := Option.some.inj e2
      omega
theorem idle_nil (g : OkG0 hs ws hd gv) : idleF ws hd gv = [] ↔ allTree ws hd gv := by
  constructor
  · intro h p n hp hn
    by_cases c : n ∈ treeIdx (fdOf ws hd gv p)
    · exact c
    · have : n ∈ idleF ws hd gv := List.mem_filter.mpr ⟨givenF_mem.mpr ⟨_, hn, by omega⟩, idle_of g hn c⟩
      rw [h] at this
      cases this
  · intro h
    refine List.eq_nil_iff_forall_not_mem.mpr fun n hn => ?_
    obtain ⟨h1, h2⟩ := List.mem_filter.mp hn
    obtain ⟨p, e, hp⟩ := givenF_mem.mp h1
    obtain ⟨r1, r2⟩ := g.gr p (List.mem_of_getElem? e)
    obtain ⟨q, rfl⟩ := Int.eq_ofNat_of_zero_le (show 0 ≤ p by omega)
    rw [not_idle g h e] at h2
    cases h2
theorem idle_come (g : OkG0 hs ws hd gv) : (idleF ws hd gv = []) ↔ givenT gv = comeT ws hd gv := by
  rw [idle_nil g, ← (come_le g).2]
  exact eq_comm
theorem come_has (g : OkG0 hs ws hd gv) {p : Nat} {held : List Str} (e : hd[p]? = some held) : ((hasF ws hd gv).getD p []).length = (treeIdx (fdOf ws hd gv p)).length + held.length := by
  obtain ⟨e0, c, hn, _⟩ := fdOf_c g e
  rw [List.getD_eq_getElem?_getD, has_at gv e, Option.getD_some, (sortS_perm _).length_eq, keys_len, c.tree_len hn, e0]
end
end
end PL

namespace PL
noncomputable section
open PySem PySem.Spec PyProof.Rows L2 RZ AP
section
variable [Tbls] [Gd]
theorem loopK_T {α : Type} {g : GM} {b : SM} {en : α → D} {k : Nat} {xs : List α} (P : Nat → S → Prop) (hP : ∀ i s, P i s → s.o[k]? = some (.l (xs.map en)))
    (h : ∀ i x s, xs[i]? = some x → P i s → ∃ s1 s2, g (.d (en x)) s = some s1 ∧ (b s1 = some (.nx s2) ∨ b s1 = some (.ct s2)) ∧ P (i + 1) s2) : ∀ (r i : Nat) (s : S), i + r = xs.length → P i s → ∃ s', loopK k g b xs.length r s = some (.nx s') ∧ P xs.length s'
  | 0, i, s, e, p => by
    refine ⟨s, ?_, by rw [← e]; exact p⟩
    unfold loopK
    rw [hP i s p]
    dsimp only
    rw [if_pos (List.length_map _)]
  | r + 1, i, s, e, p => by
    have hi : i < xs.length := by omega
    obtain ⟨s1, s2, h1, h2, h3⟩ := h i xs[i] s (List.getElem?_eq_getElem hi) p
    obtain ⟨s', e1, q⟩ := loopK_T P hP h r (i + 1) s2 (by omega) h3
    refine ⟨s', ?_, q⟩
    unfold loopK
    rw [hP i s p]
    dsimp only
    rw [if_pos (List.length_map _), show xs.length - (r + 1) = i by omega, List.getElem?_map, List.getElem?_eq_getElem hi]
    dsimp only [Option.map_some]
    rw [h1]
    dsimp only
    rcases h2 with h2 | h2
    · rw [h2]; exact e1
    · rw [h2]; exact e1
theorem forK {α : Type} {a : EM} {g : GM} {b : SM} {s : S} {k : Nat} {o1 : List MO} (en : α → D) (xs : List α) (P : Nat → S → Prop) (ha : a s = some (.m k, o1)) (hP : ∀ i s, P i s → s.o[k]? = some (.l (xs.map en))) (h0 : P 0 (s.on o1))
    (h : ∀ i x s, xs[i]? = some x → P i s → ∃ s1 s2, g (.d (en x)) s = some s1 ∧ (b s1 = some (.nx s2) ∨ b s1 = some (.ct s2)) ∧ P (i + 1) s2) : ∃ s', mForK a g b s = some (.nx s') ∧ P xs.length s' := by
  have hk : o1[k]? = some (.l (xs.map en)) := hP 0 _ h0
  unfold mForK
  rw [ha]
  dsimp only
  rw [hk]
  dsimp only
  rw [List.length_map]
  exact loopK_T P hP h xs.length 0 _ (by omega) h0
variable {hs : List Str} {ws : List Wr} {hd : List (List Str)} {gv gv' : List Int}
theorem sumI_nat (f : Nat → Nat) : ∀ l : List Nat, sumI (l.map fun p => ((f p : Nat) : Int)) = ((sumN (l.map f) : Nat) : Int)
  | [] => rfl
  | x :: r => by
    have := sumI_nat f r
    simp only [List.map_cons, sumI, sumN, List.foldr_cons] at *
    omega
theorem come_list (g : OkG0 hs ws hd gv) : ((hasF ws hd gv).zipIdx.map fun q : List Str × Nat => ((q.1.length : Int) - ((hd.getD q.2 []).length : Int))) = (List.range hd.length).map fun p => (((treeIdx (fdOf ws hd gv p)).length : Nat) : Int) := by
  apply List.ext_getElem?
  intro j
  rw [List.getElem?_map, List.getElem?_map, List.getElem?_zipIdx]
  by_cases hj : j < hd.length
  · have e := List.getElem?_eq_getElem hj
    have c := come_has g e
    rw [List.getElem?_range hj, has_at gv e]
    rw [List.getD_eq_getElem?_getD, has_at gv e, Option.getD_some] at c
    simp only [Option.map_some, Nat.zero_add]
    rw [List.getD_eq_getElem?_getD, e, Option.getD_some]
    congr 1
    omega
  · rw [List.getElem?_eq_none (by rw [hasF_len]; omega), List.getElem?_eq_none (by simpa using hj)]
    rfl
theorem intsOf_map : ∀ xs : List Int, intsOf (xs.map .int) = some xs
  | [] => rfl
  | x :: r => by simp only [List.map_cons, intsOf, intsOf_map r]
theorem come_sum (g : OkG0 hs ws hd gv) : gSum [.list ((hasF ws hd gv).zipIdx.map fun q : List Str × Nat => PyData.int ((q.1.length : Int) - ((hd.getD q.2 []).length : Int)))] = some (.int ((comeT ws hd gv : Nat) : Int)) := by
  have e : (hasF ws hd gv).zipIdx.map (fun q : List Str × Nat => PyData.int ((q.1.length : Int) - ((hd.getD q.2 []).length : Int))) = ((List.range hd.length).map fun p => (((treeIdx (fdOf ws hd gv p)).length : Nat) : Int)).map .int := by
    rw [← come_list g, List.map_map]
    rfl
  rw [e]
  simp only [gSum, intsOf_map, sumI_nat]
  rfl
theorem given_len : (gv.filter fun x => !(x == -1)).length = givenT gv := by unfold givenT; rw [List.countP_eq_length_filter]
theorem given_cnt : ((gv.length : Int) - (gv.countP (· == -1) : Nat)) = ((givenT gv : Nat) : Int) := by
  have : gv.length = gv.countP (· == -1) + givenT gv := by
    unfold givenT
    induction gv with
    | nil => rfl
    | cons x r ih =>
      rw [List.length_cons, List.countP_cons, List.countP_cons]
      cases h : x == (-1 : Int) <;> simp <;> omega
  omega
theorem lets_given (g : OkG hs ws hd gv) : runP 7 PD.m_lets_giving [net hs ws, HL hd, IT gv] = some (.int ((givenT gv : Nat) : Int)) := by
  rw [lets_giving_ev g, given_cnt]
theorem given_set {k : Nat} {p : Int} (e : gv[k]? = some p) (h : p ≠ -1) : givenT (gv.set k (-1)) + 1 = givenT gv := by
  unfold givenT
  induction gv generalizing k with
  | nil => cases e
  | cons x r ih =>
    cases k with
    | zero =>
      cases e
      have : (p == -1) = false := beq_eq_false_iff_ne.mpr h
      simp [List.countP_cons, this]
    | succ k =>
      rw [List.set_cons_succ, List.countP_cons, List.countP_cons, ← ih (k := k) e]
      omega
theorem mul2L (x : D) : gMulU (.list [x]) (.int 2) = some (.list [x, x]) := by
  unfold gMulU gRep
  simp only [gMul, g2I, oel]
  rw [if_pos (by simp)]
  rfl
theorem idleF_len : (idleF ws hd gv).length ≤ gv.length ∧ ∀ x ∈ idleF ws hd gv, x < gv.length := by
  rw [idleF_eq]
  refine ⟨?_, fun x hx => ?_⟩
  · rw [List.length_map]
    have := List.length_filter_le (fun q : Int × Nat => !(q.1 == -1) && idleB ws hd gv q.2) gv.zipIdx
    rw [List.length_zipIdx] at this
    exact this
  · obtain ⟨⟨p, k⟩, hq, rfl⟩ := List.mem_map.mp hx
    exact (List.getElem?_eq_some_iff.mp (List.mem_zipIdx_iff_getElem?.mp (List.mem_filter.mp hq).1)).1
theorem eA (olds : List MO) (y : MO) : (olds ++ [y])[olds.length]? = some y := by rw [List.getElem?_append_right (Nat.le_refl _)]; simp
theorem eS (olds : List MO) (y z : MO) : (olds ++ [y]).set olds.length z = olds ++ [z] := by rw [List.set_append_right _ _ (Nat.le_refl _)]; simp
theorem refsB_app : ∀ (n : Nat) (a b : List MO), refsB n (a ++ b) = (refsB n a && refsB n b)
  | _, [], b => by simp [refsB_nil]
  | n, x :: r, b => by rw [List.cons_append, refsB_cons, refsB_cons, refsB_app n r b, Bool.and_assoc]
def Olds (olds : List MO) : Prop := ∀ n, refsB n olds = true
theorem Olds.add {olds : List MO} (h : Olds olds) (ds : List D) : Olds (olds ++ [.l ds]) := fun n => by rw [refsB_app, h n]; rfl
theorem gNeB (a b : Bool) : gNe (.bool a) (.bool b) = some (.bool (a != b)) := by cases a <;> cases b <;> rfl
theorem gEq_nilL (xs : List Nat) : gEq (.list (xs.map nI)) (.list []) = some (.bool xs.isEmpty) := by
  rw [gEq_shp (shpL_nats xs) (by decide +kernel) (fun x y h => by cases h.1)]
  cases xs with
  | nil => rfl
  | cons a r => simp only [List.map_cons, PyData.eqv, PyData.eqvAll, List.isEmpty_cons]
end
end
end PL

namespace R18
noncomputable section
open PySem PySem.Spec PyProof.Rows L2 RZ AP PL PF2
section
variable [Tbls]
variable {hs : List Str} {ws : List Wr} {hd : List (List Str)} {gv : List Int}
theorem drawn_run {G1 G2 G4 : Fun2} {fo f1 f2 f3 : MO} {hs : List Str} {ws : List Wr} {hd : List (List Str)} {gv : List Int} (e1 : G1 fo [.int 6, .int 14] = some (net hs ws, f1)) (e2 : G2 f1 [net hs ws, .int 3] = some (HL hd, f2))
    (e4 : G4 f2 [net hs ws, HL hd, .int (3 * (ws.length : Int))] = some (IT gv, f3)) :
    (mSeq (mAsg (mCallF 3 G1 (mCons (mVar 0) (mCons (mC (.int 6)) (mCons (mC (.int 14)) mNil)))) (mgName 1)) (mSeq (mAsg (mCallF 3 G2 (mCons (mVar 0) (mCons (mVar 1) (mCons (mC (.int 3)) mNil)))) (mgName 2)) (mRet (mTup (mCons (mVar 1) (mCons (mVar 2) (mCons (mCallF 4 G4 (mCons (mVar 0) (mCons (mVar 1) (mCons (mVar 2) (mCons (mOp gMul (mC (.int 3)) (mCB gLen (mCons (mOp gIx (mVar 1) (mC (.int 1))) mNil))) mNil))))) mNil))))))) (⟨[some (.m 0), none, none], [fo]⟩ : S) = some (.rt (.d (.tuple [net hs ws, HL hd, IT gv])) [f3]) := by
  have en : gIx (net hs ws) (.int 1) = some (W ws) := gIx1 _ _ _
  have mul3 : gMul (.int 3) (.int (ws.length : Int)) = some (.int (3 * (ws.length : Int))) := mul_l (by decide) (by decide)
  simp only [mSeq, mPut, mOp, mVar, mC, mIfS, mTest, mTr, mNot, mAsg, mgName, mgTup, mgSeq, mgCons, mgNil, mCB, mCons, mNil, mRet, mRetN, mNext, mPar, mParO, mParOO, mLstN, mAnd, mOr, mAndV, mOrV, mNotV, mIf, mTup, mLst, mSl, mPart, mNoPart, mCall, mCallK, mCallF, mDrop, mDat, mOwn, mListN, mUn, mStar, seqD, flat_l, flat_k, refs1_l, refs1_k, refsB_nil, refsB_cons, mApp, mPop0, mChain, mIsi, mRange, mItems, mEnum, mAnyI, mYes, seqOf, frz, isiB, truD, perm, List.filterMap_cons, List.filterMap_nil, AP.S.on, vw, vws, dats, wipeS, retD, vwE, gS_eq, sS_eq, st0, List.reduceReplicate, List.getElem?_cons_zero, List.getElem?_cons_succ, List.set_cons_zero, List.set_cons_succ, List.map_cons, List.map_nil, List.length_cons, List.length_nil, List.cons_append, List.nil_append, List.append_nil, and_self, and_true, true_and, if_true, if_false, decide_true, decide_false, Bool.and_self, Bool.and_true, Bool.true_and, Bool.not_true, Bool.not_false, Nat.reduceAdd, Nat.reduceSub, Nat.reduceLeDiff, Nat.reduceEqDiff, Nat.zero_add, Nat.zero_le, Int.reduceLT, Int.reduceNeg, e1, e2, en, gLenT, List.length_map, mul3, e4]
theorem kok : H18.dc.ok = true := by decide +kernel
theorem drawn_ev {fo : MO} (h : PF2.FeedOk fo) : ∃ (hs : List Str) (ws : List Wr) (hd : List (List Str)) (gv : List Int) (fo' : MO), runF 3 H18.m__law_drawn fo [] = some (.tuple [net hs ws, HL hd, IT gv], fo') ∧ OkG hs ws hd gv ∧ hs.length ≤ 6 ∧ ws.length ≤ 14 ∧ hd.length ≤ 3 ∧ PF2.FeedOk fo' := by
  obtain ⟨hs, ws, f1, e1, g, hA, wB, h1⟩ := grid kok h (A := 6) (B := 14) (by omega) (by omega) (by omega)
  obtain ⟨hd, f2, e2, gh, hC, h2⟩ := stock kok h1 g (by omega) (M := 3) (by omega)
  obtain ⟨gv, f4, e4, g4, h4⟩ := plan kok h2 gh (n := 3 * ws.length) (by omega)
  have e4' : runF 13 (m__law_plan H18.dc) f2 [net hs ws, HL hd, .int (3 * (ws.length : Int))] = some (IT gv, f4) := by
    rw [← e4]
    rfl
  refine ⟨hs, ws, hd, gv, f4, h.run h4 ?_, g4, hA, wB, hC, h4⟩
  exact retF_of (m := H18.m__law_drawn) (drawn_run (G1 := runF 9 (m__law_grid H18.dc)) (G2 := runF 7 (m__law_stock H18.dc)) (G4 := runF 13 (m__law_plan H18.dc)) e1 e2 e4') rfl
abbrev stA (a2 a3 a4 a5 a6 a7 a8 a9 a10 a11 a12 a13 : Option SV) (o : List MO) : S := ⟨[none, some (.m 0), a2, a3, a4, a5, a6, a7, a8, a9, a10, a11, a12, a13, none, none], o⟩
abbrev stB (hs : List Str) (ws : List Wr) (hd : List (List Str)) (gv : List Int) (a2 a3 a4 a5 a6 a12 a13 : Option SV) (f : MO) (olds : List MO) (due : List Nat) : S :=
  stA a2 a3 a4 a5 a6 (some (.d (net hs ws))) (some (.d (HL hd))) (some (.d (IT gv))) (some (.d (HL (hasF ws hd gv)))) (some (.m (olds.length + 1))) a12 a13 (f :: (olds ++ [.l (due.map nI)]))
theorem late_ev (g : OkG0 hs ws hd gv) {k : Nat} {p : Int} (e : gv[k]? = some p) {a2 a4 a5 a6 a12 a13 : Option SV} {f : MO} {olds : List MO} {ks : List Nat} :
    (mAsg (mOp gAddU (mOp gAddU (mSl gSl (mVar 9) mNoPart (mPart (mVar 3))) (mTup (mCons (mUn gNeg (mC (.int 1))) mNil))) (mSl gSl (mVar 9) (mPart (mOp gAddU (mVar 3) (mC (.int 1)))) mNoPart)) (mgName 12)) (stB hs ws hd gv a2 (some (.d (nI k))) a4 a5 a6 a12 a13 f olds ks) =
      some (.nx (stB hs ws hd gv a2 (some (.d (nI k))) a4 a5 a6 (some (.d (IT (gv.set k (-1))))) a13 f olds ks)) := by
  have hk := (List.getElem?_eq_some_iff.mp e).1
  have gl := g.gl
  have wl := g.wl
  have c1 : gAddU (.tuple ((gv.map PyData.int).take k)) (.tuple [.int (-1)]) = some (.tuple ((gv.map PyData.int).take k ++ [.int (-1)])) := gAddUT (by
    rw [List.length_cons, List.length_nil]
    rw [List.length_take, List.length_map]
    omega)
  have c2 : gAddU (.tuple ((gv.map PyData.int).take k ++ [.int (-1)])) (.tuple ((gv.map PyData.int).drop (k + 1))) = some (IT (gv.set k (-1))) := by
    rw [gAddUT (by
      rw [List.length_append, List.length_cons, List.length_nil, List.length_take, List.length_drop, List.length_map]
      omega), List.append_assoc, List.singleton_append, set_cut gv k (-1) hk]
  simp only [mSeq, mPut, mOp, mVar, mC, mIfS, mTest, mTr, mNot, mAsg, mgName, mgTup, mgSeq, mgCons, mgNil, mCB, mCons, mNil, mRet, mRetN, mNext, mPar, mParO, mParOO, mLstN, mAnd, mOr, mAndV, mOrV, mNotV, mIf, mTup, mLst, mSl, mPart, mNoPart, mCall, mCallK, mCallF, mDrop, mDat, mOwn, mListN, mUn, mStar, seqD, flat_l, flat_k, refs1_l, refs1_k, refsB_nil, refsB_cons, mApp, mPop0, mChain, mIsi, mRange, mItems, mEnum, mAnyI, mYes, seqOf, frz, isiB, truD, perm, List.filterMap_cons, List.filterMap_nil, AP.S.on, vw, vws, dats, wipeS, retD, vwE, gS_eq, sS_eq, st0, List.reduceReplicate, List.getElem?_cons_zero, List.getElem?_cons_succ, List.set_cons_zero, List.set_cons_succ, List.map_cons, List.map_nil, List.length_cons, List.length_nil, List.cons_append, List.nil_append, List.append_nil, and_self, and_true, true_and, if_true, if_false, decide_true, decide_false, Bool.and_self, Bool.and_true, Bool.true_and, Bool.not_true, Bool.not_false, Nat.reduceAdd, Nat.reduceSub, Nat.reduceLeDiff, Nat.reduceEqDiff, Nat.zero_add, Nat.zero_le, Int.reduceLT, Int.reduceNeg, gSl_take, gSl_drop, gNegI, gAddI, c1, c2]
theorem due_step (g : OkG0 hs ws hd gv) {k : Nat} {p : Int} (e : gv[k]? = some p) {a2 a4 a5 a6 a12 a13 : Option SV} {f : MO} {olds : List MO} {ks : List Nat} (kl : ks.length < 10000) :
    H18.fb_law_0 (stB hs ws hd gv a2 (some (.d (nI k))) a4 a5 a6 a12 a13 f olds ks) = some (.nx (stB hs ws hd gv a2 (some (.d (nI k))) a4 a5 a6 (some (.d (IT (gv.set k (-1))))) a13 f olds (if (!(p == -1) && idleB ws hd gv k) = true then ks ++ [k] else ks))) := by
  have eg : gIx (IT gv) (.int (k : Int)) = some (.int p) := by rw [gIxT, List.getElem?_map, e]; rfl
  unfold H18.fb_law_0
  refine seq_nx (late_ev g e) ?_
  by_cases h1 : p = -1
  · subst h1
    have q : (!((-1 : Int) == -1) && idleB ws hd gv k) = false := rfl
    rw [q]
    simp only [mSeq, mPut, mOp, mVar, mC, mIfS, mTest, mTr, mNot, mAsg, mgName, mgTup, mgSeq, mgCons, mgNil, mCB, mCons, mNil, mRet, mRetN, mNext, mPar, mParO, mParOO, mLstN, mAnd, mOr, mAndV, mOrV, mNotV, mIf, mTup, mLst, mSl, mPart, mNoPart, mCall, mCallK, mCallF, mDrop, mDat, mOwn, mListN, mUn, mStar, seqD, flat_l, flat_k, refs1_l, refs1_k, refsB_nil, refsB_cons, mApp, mPop0, mChain, mIsi, mRange, mItems, mEnum, mAnyI, mYes, seqOf, frz, isiB, truD, perm, List.filterMap_cons, List.filterMap_nil, AP.S.on, vw, vws, dats, wipeS, retD, vwE, gS_eq, sS_eq, st0, List.reduceReplicate, List.getElem?_cons_zero, List.getElem?_cons_succ, List.set_cons_zero, List.set_cons_succ, List.map_cons, List.map_nil, List.length_cons, List.length_nil, List.cons_append, List.nil_append, List.append_nil, and_self, and_true, true_and, if_true, if_false, decide_true, decide_false, Bool.and_self, Bool.and_true, Bool.true_and, Bool.not_true, Bool.not_false, Nat.reduceAdd, Nat.reduceSub, Nat.reduceLeDiff, Nat.reduceEqDiff, Nat.zero_add, Nat.zero_le, Int.reduceLT, Int.reduceNeg, eg, gNegI, gNeI, beq_self_eq_true]
    rfl
  · have h2 : (p == -1) = false := by simpa using h1
    have g2 := set_gr g k
    have eh := has_ev g2 (ixP_T (gv.set k (-1)))
    have ee := gEq_HL (shp_has g2) (shp_has g)
    rw [idle_has g e h1] at ee
    rw [h2, Bool.not_false, Bool.true_and]
    cases hb : idleB ws hd gv k with
    | true =>
      rw [hb] at ee
      have k5 : ks.length < 100000 := by omega
      simp only [mSeq, mPut, mOp, mVar, mC, mIfS, mTest, mTr, mNot, mAsg, mgName, mgTup, mgSeq, mgCons, mgNil, mCB, mCons, mNil, mRet, mRetN, mNext, mPar, mParO, mParOO, mLstN, mAnd, mOr, mAndV, mOrV, mNotV, mIf, mTup, mLst, mSl, mPart, mNoPart, mCall, mCallK, mCallF, mDrop, mDat, mOwn, mListN, mUn, mStar, seqD, flat_l, flat_k, refs1_l, refs1_k, refsB_nil, refsB_cons, mApp, mPop0, mChain, mIsi, mRange, mItems, mEnum, mAnyI, mYes, seqOf, frz, isiB, truD, perm, List.filterMap_cons, List.filterMap_nil, AP.S.on, vw, vws, dats, wipeS, retD, vwE, gS_eq, sS_eq, st0, List.reduceReplicate, List.getElem?_cons_zero, List.getElem?_cons_succ, List.set_cons_zero, List.set_cons_succ, List.map_cons, List.map_nil, List.length_cons, List.length_nil, List.cons_append, List.nil_append, List.append_nil, and_self, and_true, true_and, if_true, if_false, decide_true, decide_false, Bool.and_self, Bool.and_true, Bool.true_and, Bool.not_true, Bool.not_false, Nat.reduceAdd, Nat.reduceSub, Nat.reduceLeDiff, Nat.reduceEqDiff, Nat.zero_add, Nat.zero_le, Int.reduceLT, Int.reduceNeg, eg, gNegI, gNeI, h2, eh, ee, List.length_map, eA, eS, k5, stB, List.map_append]
    | false =>
      rw [hb] at ee
      simp only [mSeq, mPut, mOp, mVar, mC, mIfS, mTest, mTr, mNot, mAsg, mgName, mgTup, mgSeq, mgCons, mgNil, mCB, mCons, mNil, mRet, mRetN, mNext, mPar, mParO, mParOO, mLstN, mAnd, mOr, mAndV, mOrV, mNotV, mIf, mTup, mLst, mSl, mPart, mNoPart, mCall, mCallK, mCallF, mDrop, mDat, mOwn, mListN, mUn, mStar, seqD, flat_l, flat_k, refs1_l, refs1_k, refsB_nil, refsB_cons, mApp, mPop0, mChain, mIsi, mRange, mItems, mEnum, mAnyI, mYes, seqOf, frz, isiB, truD, perm, List.filterMap_cons, List.filterMap_nil, AP.S.on, vw, vws, dats, wipeS, retD, vwE, gS_eq, sS_eq, st0, List.reduceReplicate, List.getElem?_cons_zero, List.getElem?_cons_succ, List.set_cons_zero, List.set_cons_succ, List.map_cons, List.map_nil, List.length_cons, List.length_nil, List.cons_append, List.nil_append, List.append_nil, and_self, and_true, true_and, if_true, if_false, decide_true, decide_false, Bool.and_self, Bool.and_true, Bool.true_and, Bool.not_true, Bool.not_false, Nat.reduceAdd, Nat.reduceSub, Nat.reduceLeDiff, Nat.reduceEqDiff, Nat.zero_add, Nat.zero_le, Int.reduceLT, Int.reduceNeg, eg, gNegI, gNeI, h2, eh, ee]
      rfl
theorem due_loop (g : OkG0 hs ws hd gv) {a2 a3 a4 a5 a6 a12 a13 : Option SV} {f : MO} {olds : List MO} :
    ∃ s', H18.fl_law_1 (stB hs ws hd gv a2 a3 a4 a5 a6 a12 a13 f olds []) = some (.nx s') ∧ ∃ b3 b12, s' = stB hs ws hd gv a2 b3 a4 a5 a6 b12 a13 f olds (idleF ws hd gv) := by
  have gl := g.gl
  have wl := g.wl
  have q := forT (im := mRange (mCons (mCB gLen (mCons (mVar 9) mNil)) mNil)) (g := mgName 3) (b := H18.fb_law_0) (s := stB hs ws hd gv a2 a3 a4 a5 a6 a12 a13 f olds []) (o1 := f :: (olds ++ [.l []])) (fun q : Int × Nat => nI q.2) gv.zipIdx (fun i s => ∃ b3 b12, s = stB hs ws hd gv a2 b3 a4 a5 a6 b12 a13 f olds ((gv.zipIdx.take i).foldl (fun acc q => if (!(q.1 == -1) && idleB ws hd gv q.2) = true then acc ++ [q.2] else acc) [])) (by
    rw [← range_zip gv nI]
    refine mRange_nat gv.length (by omega) _ _ _ ?_
    simp only [mSeq, mPut, mOp, mVar, mC, mIfS, mTest, mTr, mNot, mAsg, mgName, mgTup, mgSeq, mgCons, mgNil, mCB, mCons, mNil, mRet, mRetN, mNext, mPar, mParO, mParOO, mLstN, mAnd, mOr, mAndV, mOrV, mNotV, mIf, mTup, mLst, mSl, mPart, mNoPart, mCall, mCallK, mCallF, mDrop, mDat, mOwn, mListN, mUn, mStar, seqD, flat_l, flat_k, refs1_l, refs1_k, refsB_nil, refsB_cons, mApp, mPop0, mChain, mIsi, mRange, mItems, mEnum, mAnyI, mYes, seqOf, frz, isiB, truD, perm, List.filterMap_cons, List.filterMap_nil, AP.S.on, vw, vws, dats, wipeS, retD, vwE, gS_eq, sS_eq, st0, List.reduceReplicate, List.getElem?_cons_zero, List.getElem?_cons_succ, List.set_cons_zero, List.set_cons_succ, List.map_cons, List.map_nil, List.length_cons, List.length_nil, List.cons_append, List.nil_append, List.append_nil, and_self, and_true, true_and, if_true, if_false, decide_true, decide_false, Bool.and_self, Bool.and_true, Bool.true_and, Bool.not_true, Bool.not_false, Nat.reduceAdd, Nat.reduceSub, Nat.reduceLeDiff, Nat.reduceEqDiff, Nat.zero_add, Nat.zero_le, Int.reduceLT, Int.reduceNeg, gLenT, List.length_map]) ⟨a3, a12, rfl⟩ (by
    rintro i ⟨p, k⟩ s hi ⟨b3, b12, rfl⟩
    have e : gv[k]? = some p := List.mem_zipIdx_iff_getElem?.mp (List.mem_of_getElem? hi)
    have kl : ((gv.zipIdx.take i).foldl (fun acc q => if (!(q.1 == -1) && idleB ws hd gv q.2) = true then acc ++ [q.2] else acc) ([] : List Nat)).length < 10000 := by
      rw [fold_given (fun q => !(q.1 == -1) && idleB ws hd gv q.2), List.nil_append, List.length_map]
      have h1 := List.length_filter_le (fun q : Int × Nat => !(q.1 == -1) && idleB ws hd gv q.2) (gv.zipIdx.take i)
      rw [List.length_take, List.length_zipIdx] at h1
      omega
    have tk : (gv.zipIdx.take (i + 1)).foldl (fun acc q => if (!(q.1 == -1) && idleB ws hd gv q.2) = true then acc ++ [q.2] else acc) ([] : List Nat) =
        (if (!(p == -1) && idleB ws hd gv k) = true then (gv.zipIdx.take i).foldl (fun acc q => if (!(q.1 == -1) && idleB ws hd gv q.2) = true then acc ++ [q.2] else acc) ([] : List Nat) ++ [k] else (gv.zipIdx.take i).foldl (fun acc q => if (!(q.1 == -1) && idleB ws hd gv q.2) = true then acc ++ [q.2] else acc) ([] : List Nat)) := by
      rw [List.take_succ, hi, Option.toList_some, List.foldl_append]
      rfl
    refine ⟨_, _, rfl, .inl (due_step g e kl), some (.d (nI k)), some (.d (IT (gv.set k (-1)))), ?_⟩
    rw [tk])
  unfold H18.fl_law_1
  obtain ⟨s', q1, b3, b12, q2⟩ := q
  refine ⟨s', q1, b3, b12, ?_⟩
  rw [q2, List.take_length, fold_given (fun q => !(q.1 == -1) && idleB ws hd gv q.2), List.nil_append, ← idleF_eq]
theorem left_ok (g : OkG hs ws hd gv) {k : Nat} (h : k ∈ idleF ws hd gv) : ∃ p, gv[k]? = some p ∧ p ≠ -1 ∧ OkG hs ws hd (gv.set k (-1)) ∧ hasF ws hd (gv.set k (-1)) = hasF ws hd gv := by
  obtain ⟨h1, h2⟩ := List.mem_filter.mp h
  obtain ⟨p, e, hp⟩ := givenF_mem.mp h1
  have hs := idle_has g.toOkG0 e hp
  rw [h2, decide_eq_true_eq] at hs
  exact ⟨p, e, hp, g.fewer (set_gr g.toOkG0 k) fewer_set hs, hs⟩
theorem left_step (g : OkG hs ws hd gv) (l1 : hs.length ≤ 8) (l3 : hd.length ≤ 6) (wl : ws.length ≤ 24) {k : Nat} (h : k ∈ idleF ws hd gv) {a2 a4 a6 a12 a13 : Option SV} {f : MO} {olds : List MO} {ks : List Nat} :
    H18.fb_law_3 (stB hs ws hd gv a2 (some (.d (nI k))) a4 (some (.d (nI (givenT gv)))) a6 a12 a13 f olds ks) = some (.nx (stB hs ws hd gv a2 (some (.d (nI k))) a4 (some (.d (nI (givenT gv)))) a6 (some (.d (IT (gv.set k (-1))))) (some (.d (.list [nI (givenT (gv.set k (-1))), HL (hasF ws hd gv)]))) f olds ks)) := by
  obtain ⟨p, e, hp, g2, hh⟩ := left_ok g h
  have gs := given_set e hp
  have gm : givenT gv ≤ 24 := by
    unfold givenT
    have := List.countP_le_length (p := fun x : Int => !(x == -1)) (l := gv)
    have := g.gl
    omega
  have e1 := lets_given g2
  have e2 := having_ev g2
  rw [hh] at e2
  have hH : Sh (HL (hasF ws hd gv)) 4100 2 := (Sh.sets g.nm (hasF_sub g.toOkG0) l1 (by rw [hasF_len]; exact l3)).mono (by omega) (by omega)
  have r : gRepr [.list [nI (givenT (gv.set k (-1))), HL (hasF ws hd gv)]] = some (.str (PyData.shown (.list [nI (givenT (gv.set k (-1))), HL (hasF ws hd gv)]))) :=
    (Sh.list (Sh.cons ((Sh.nat (show givenT (gv.set k (-1)) < 1000 by omega)).mono (by omega) (by omega)) (Sh.cons hH Sh.nil)) (n := 2) (Nat.le_refl 2)).repr (by omega) (by omega)
  have sb : ((givenT gv : Nat) : Int) - 1 = ((givenT (gv.set k (-1)) : Nat) : Int) := by omega
  have t1 : ∀ s : Str, decide (s = s) = true := fun s => decide_eq_true rfl
  unfold H18.fb_law_3
  refine seq_nx (late_ev g.toOkG0 e) ?_
  simp only [mSeq, mPut, mOp, mVar, mC, mIfS, mTest, mTr, mNot, mAsg, mgName, mgTup, mgSeq, mgCons, mgNil, mCB, mCons, mNil, mRet, mRetN, mNext, mPar, mParO, mParOO, mLstN, mAnd, mOr, mAndV, mOrV, mNotV, mIf, mTup, mLst, mSl, mPart, mNoPart, mCall, mCallK, mCallF, mDrop, mDat, mOwn, mListN, mUn, mStar, seqD, flat_l, flat_k, refs1_l, refs1_k, refsB_nil, refsB_cons, mApp, mPop0, mChain, mIsi, mRange, mItems, mEnum, mAnyI, mYes, seqOf, frz, isiB, truD, perm, List.filterMap_cons, List.filterMap_nil, AP.S.on, vw, vws, dats, wipeS, retD, vwE, gS_eq, sS_eq, st0, List.reduceReplicate, List.getElem?_cons_zero, List.getElem?_cons_succ, List.set_cons_zero, List.set_cons_succ, List.map_cons, List.map_nil, List.length_cons, List.length_nil, List.cons_append, List.nil_append, List.append_nil, and_self, and_true, true_and, if_true, if_false, decide_true, decide_false, Bool.and_self, Bool.and_true, Bool.true_and, Bool.not_true, Bool.not_false, Nat.reduceAdd, Nat.reduceSub, Nat.reduceLeDiff, Nat.reduceEqDiff, Nat.zero_add, Nat.zero_le, Int.reduceLT, Int.reduceNeg, e1, e2, gSubI, sb, r, PL.gNeS, t1]
theorem left_loop (g : OkG hs ws hd gv) (l1 : hs.length ≤ 8) (l3 : hd.length ≤ 6) (wl : ws.length ≤ 24) {a2 a3 a4 a6 a12 a13 : Option SV} {f : MO} {olds : List MO} :
    ∃ s', H18.fl_law_4 (stB hs ws hd gv a2 a3 a4 (some (.d (nI (givenT gv)))) a6 a12 a13 f olds (idleF ws hd gv)) = some (.nx s') ∧ ∃ b3 b12 b13, s' = stB hs ws hd gv a2 b3 a4 (some (.d (nI (givenT gv)))) a6 b12 b13 f olds (idleF ws hd gv) := by
  unfold H18.fl_law_4
  refine forK (s := stB hs ws hd gv a2 a3 a4 (some (.d (nI (givenT gv)))) a6 a12 a13 f olds (idleF ws hd gv)) (k := olds.length + 1) (o1 := f :: (olds ++ [.l ((idleF ws hd gv).map nI)])) nI (idleF ws hd gv) (fun i s => ∃ b3 b12 b13, s = stB hs ws hd gv a2 b3 a4 (some (.d (nI (givenT gv)))) a6 b12 b13 f olds (idleF ws hd gv)) rfl ?_ ⟨a3, a12, a13, rfl⟩ ?_
  · rintro i s ⟨b3, b12, b13, rfl⟩
    exact eA olds _
  · rintro i k s hi ⟨b3, b12, b13, rfl⟩
    exact ⟨_, _, rfl, .inl (left_step g l1 l3 wl (List.mem_of_getElem? hi)), _, _, _, rfl⟩
theorem lc2_ev (g : OkG0 hs ws hd gv) {a2 a3 a4 a5 a6 a12 a13 : Option SV} {f : MO} {olds : List MO} {ks : List Nat} :
    H18.lc_law_2 (stB hs ws hd gv a2 a3 a4 a5 a6 a12 a13 f olds ks) = some (.l ((gv.filter fun x => !(x == -1)).map .int), f :: (olds ++ [.l (ks.map nI)])) := by
  have gl := g.gl
  have wl := g.wl
  unfold H18.lc_law_2
  refine lcT PyData.int gv (fun x => !(x == -1)) PyData.int (by simp only [mSeq, mPut, mOp, mVar, mC, mIfS, mTest, mTr, mNot, mAsg, mgName, mgTup, mgSeq, mgCons, mgNil, mCB, mCons, mNil, mRet, mRetN, mNext, mPar, mParO, mParOO, mLstN, mAnd, mOr, mAndV, mOrV, mNotV, mIf, mTup, mLst, mSl, mPart, mNoPart, mCall, mCallK, mCallF, mDrop, mDat, mOwn, mListN, mUn, mStar, seqD, flat_l, flat_k, refs1_l, refs1_k, refsB_nil, refsB_cons, mApp, mPop0, mChain, mIsi, mRange, mItems, mEnum, mAnyI, mYes, seqOf, frz, isiB, truD, perm, List.filterMap_cons, List.filterMap_nil, AP.S.on, vw, vws, dats, wipeS, retD, vwE, gS_eq, sS_eq, st0, List.reduceReplicate, List.getElem?_cons_zero, List.getElem?_cons_succ, List.set_cons_zero, List.set_cons_succ, List.map_cons, List.map_nil, List.length_cons, List.length_nil, List.cons_append, List.nil_append, List.append_nil, and_self, and_true, true_and, if_true, if_false, decide_true, decide_false, Bool.and_self, Bool.and_true, Bool.true_and, Bool.not_true, Bool.not_false, Nat.reduceAdd, Nat.reduceSub, Nat.reduceLeDiff, Nat.reduceEqDiff, Nat.zero_add, Nat.zero_le, Int.reduceLT, Int.reduceNeg, IT]) (by omega) fun x hx acc => ⟨_, rfl, ?_, fun _ => ?_⟩
  · simp only [mSeq, mPut, mOp, mVar, mC, mIfS, mTest, mTr, mNot, mAsg, mgName, mgTup, mgSeq, mgCons, mgNil, mCB, mCons, mNil, mRet, mRetN, mNext, mPar, mParO, mParOO, mLstN, mAnd, mOr, mAndV, mOrV, mNotV, mIf, mTup, mLst, mSl, mPart, mNoPart, mCall, mCallK, mCallF, mDrop, mDat, mOwn, mListN, mUn, mStar, seqD, flat_l, flat_k, refs1_l, refs1_k, refsB_nil, refsB_cons, mApp, mPop0, mChain, mIsi, mRange, mItems, mEnum, mAnyI, mYes, seqOf, frz, isiB, truD, perm, List.filterMap_cons, List.filterMap_nil, AP.S.on, vw, vws, dats, wipeS, retD, vwE, gS_eq, sS_eq, st0, List.reduceReplicate, List.getElem?_cons_zero, List.getElem?_cons_succ, List.set_cons_zero, List.set_cons_succ, List.map_cons, List.map_nil, List.length_cons, List.length_nil, List.cons_append, List.nil_append, List.append_nil, and_self, and_true, true_and, if_true, if_false, decide_true, decide_false, Bool.and_self, Bool.and_true, Bool.true_and, Bool.not_true, Bool.not_false, Nat.reduceAdd, Nat.reduceSub, Nat.reduceLeDiff, Nat.reduceEqDiff, Nat.zero_add, Nat.zero_le, Int.reduceLT, Int.reduceNeg, gNegI, gNeI]
  · simp only [mSeq, mPut, mOp, mVar, mC, mIfS, mTest, mTr, mNot, mAsg, mgName, mgTup, mgSeq, mgCons, mgNil, mCB, mCons, mNil, mRet, mRetN, mNext, mPar, mParO, mParOO, mLstN, mAnd, mOr, mAndV, mOrV, mNotV, mIf, mTup, mLst, mSl, mPart, mNoPart, mCall, mCallK, mCallF, mDrop, mDat, mOwn, mListN, mUn, mStar, seqD, flat_l, flat_k, refs1_l, refs1_k, refsB_nil, refsB_cons, mApp, mPop0, mChain, mIsi, mRange, mItems, mEnum, mAnyI, mYes, seqOf, frz, isiB, truD, perm, List.filterMap_cons, List.filterMap_nil, AP.S.on, vw, vws, dats, wipeS, retD, vwE, gS_eq, sS_eq, st0, List.reduceReplicate, List.getElem?_cons_zero, List.getElem?_cons_succ, List.set_cons_zero, List.set_cons_succ, List.map_cons, List.map_nil, List.length_cons, List.length_nil, List.cons_append, List.nil_append, List.append_nil, and_self, and_true, true_and, if_true, if_false, decide_true, decide_false, Bool.and_self, Bool.and_true, Bool.true_and, Bool.not_true, Bool.not_false, Nat.reduceAdd, Nat.reduceSub, Nat.reduceLeDiff, Nat.reduceEqDiff, Nat.zero_add, Nat.zero_le, Int.reduceLT, Int.reduceNeg]
theorem lc5_ev (g : OkG0 hs ws hd gv) {a2 a3 a4 a5 a6 a12 a13 : Option SV} {f : MO} {olds : List MO} {ks : List Nat} :
    H18.lc_law_5 (stB hs ws hd gv a2 a3 a4 a5 a6 a12 a13 f olds ks) = some (.l ((hasF ws hd gv).zipIdx.map fun q : List Str × Nat => PyData.int ((q.1.length : Int) - ((hd.getD q.2 []).length : Int))), f :: (olds ++ [.l (ks.map nI)])) := by
  have ph := g.ph
  unfold H18.lc_law_5
  refine lcA (fun q : List Str × Nat => PyData.tuple [.int (q.2 : Nat), T q.1]) (hasF ws hd gv).zipIdx (fun q => PyData.int ((q.1.length : Int) - ((hd.getD q.2 []).length : Int))) (by simp only [mSeq, mPut, mOp, mVar, mC, mIfS, mTest, mTr, mNot, mAsg, mgName, mgTup, mgSeq, mgCons, mgNil, mCB, mCons, mNil, mRet, mRetN, mNext, mPar, mParO, mParOO, mLstN, mAnd, mOr, mAndV, mOrV, mNotV, mIf, mTup, mLst, mSl, mPart, mNoPart, mCall, mCallK, mCallF, mDrop, mDat, mOwn, mListN, mUn, mStar, seqD, flat_l, flat_k, refs1_l, refs1_k, refsB_nil, refsB_cons, mApp, mPop0, mChain, mIsi, mRange, mItems, mEnum, mAnyI, mYes, seqOf, frz, isiB, truD, perm, List.filterMap_cons, List.filterMap_nil, AP.S.on, vw, vws, dats, wipeS, retD, vwE, gS_eq, sS_eq, st0, List.reduceReplicate, List.getElem?_cons_zero, List.getElem?_cons_succ, List.set_cons_zero, List.set_cons_succ, List.map_cons, List.map_nil, List.length_cons, List.length_nil, List.cons_append, List.nil_append, List.append_nil, and_self, and_true, true_and, if_true, if_false, decide_true, decide_false, Bool.and_self, Bool.and_true, Bool.true_and, Bool.not_true, Bool.not_false, Nat.reduceAdd, Nat.reduceSub, Nat.reduceLeDiff, Nat.reduceEqDiff, Nat.zero_add, Nat.zero_le, Int.reduceLT, Int.reduceNeg, HL, enum0]) (by rw [List.length_zipIdx, hasF_len]; omega) fun q hq acc => ⟨_, rfl, rfl, ?_⟩
  obtain ⟨X, j⟩ := q
  have hj : j < hd.length := by
    have := (List.getElem?_eq_some_iff.mp (List.mem_zipIdx_iff_getElem?.mp hq)).1
    rw [hasF_len] at this
    exact this
  have e : gIx (HL hd) (.int (j : Int)) = some (T (hd.getD j [])) := by
    rw [gIxT, List.getElem?_map, List.getElem?_eq_getElem hj, List.getD_eq_getElem?_getD, List.getElem?_eq_getElem hj]
    rfl
  simp only [mSeq, mPut, mOp, mVar, mC, mIfS, mTest, mTr, mNot, mAsg, mgName, mgTup, mgSeq, mgCons, mgNil, mCB, mCons, mNil, mRet, mRetN, mNext, mPar, mParO, mParOO, mLstN, mAnd, mOr, mAndV, mOrV, mNotV, mIf, mTup, mLst, mSl, mPart, mNoPart, mCall, mCallK, mCallF, mDrop, mDat, mOwn, mListN, mUn, mStar, seqD, flat_l, flat_k, refs1_l, refs1_k, refsB_nil, refsB_cons, mApp, mPop0, mChain, mIsi, mRange, mItems, mEnum, mAnyI, mYes, seqOf, frz, isiB, truD, perm, List.filterMap_cons, List.filterMap_nil, AP.S.on, vw, vws, dats, wipeS, retD, vwE, gS_eq, sS_eq, st0, List.reduceReplicate, List.getElem?_cons_zero, List.getElem?_cons_succ, List.set_cons_zero, List.set_cons_succ, List.map_cons, List.map_nil, List.length_cons, List.length_nil, List.cons_append, List.nil_append, List.append_nil, and_self, and_true, true_and, if_true, if_false, decide_true, decide_false, Bool.and_self, Bool.and_true, Bool.true_and, Bool.not_true, Bool.not_false, Nat.reduceAdd, Nat.reduceSub, Nat.reduceLeDiff, Nat.reduceEqDiff, Nat.zero_add, Nat.zero_le, Int.reduceLT, Int.reduceNeg, T, gLenT, List.length_map]
  rw [e]
  simp only [mSeq, mPut, mOp, mVar, mC, mIfS, mTest, mTr, mNot, mAsg, mgName, mgTup, mgSeq, mgCons, mgNil, mCB, mCons, mNil, mRet, mRetN, mNext, mPar, mParO, mParOO, mLstN, mAnd, mOr, mAndV, mOrV, mNotV, mIf, mTup, mLst, mSl, mPart, mNoPart, mCall, mCallK, mCallF, mDrop, mDat, mOwn, mListN, mUn, mStar, seqD, flat_l, flat_k, refs1_l, refs1_k, refsB_nil, refsB_cons, mApp, mPop0, mChain, mIsi, mRange, mItems, mEnum, mAnyI, mYes, seqOf, frz, isiB, truD, perm, List.filterMap_cons, List.filterMap_nil, AP.S.on, vw, vws, dats, wipeS, retD, vwE, gS_eq, sS_eq, st0, List.reduceReplicate, List.getElem?_cons_zero, List.getElem?_cons_succ, List.set_cons_zero, List.set_cons_succ, List.map_cons, List.map_nil, List.length_cons, List.length_nil, List.cons_append, List.nil_append, List.append_nil, and_self, and_true, true_and, if_true, if_false, decide_true, decide_false, Bool.and_self, Bool.and_true, Bool.true_and, Bool.not_true, Bool.not_false, Nat.reduceAdd, Nat.reduceSub, Nat.reduceLeDiff, Nat.reduceEqDiff, Nat.zero_add, Nat.zero_le, Int.reduceLT, Int.reduceNeg, T, gLenT, List.length_map, gSubI]
theorem lap {G : Fun2} {f f' : MO} (e : G f [] = some (.tuple [net hs ws, HL hd, IT gv], f')) (g : OkG hs ws hd gv) (l1 : hs.length ≤ 8) (wl : ws.length ≤ 24) (l3 : hd.length ≤ 6) (hf : PF2.FeedOk f') {olds : List MO} (ho : Olds olds) {a2 a3 a4 a5 a6 a7 a8 a9 a10 a11 a12 a13 : Option SV} :
    ∃ b3 b4 b5 b6 b12 b13, (mSeq (mAsg (mCallF 1 G (mCons (mVar 1) mNil)) (mgSeq 3 (mgCons (mgName 7) (mgCons (mgName 8) (mgCons (mgName 9) mgNil))))) (mSeq (mParO 10 11 (mCall 3 (runP 10 H18.m__law_has) (mCons (mVar 7) (mCons (mVar 8) (mCons (mVar 9) mNil)))) (mLstN mNil)) (mSeq H18.fl_law_1 (mSeq (mAsg (mLst (mCons (mCall 3 (runP 6 H18.m_idle_wires) (mCons (mVar 7) (mCons (mVar 8) (mCons (mVar 9) mNil)))) (mCons (mCallK 3 (runP 6 H18.m_idle_wires) [1, 0, 2] (mCons (mVar 8) (mCons (mVar 7) (mCons (mVar 9) mNil)))) mNil))) (mgName 4)) (mSeq (mIfS (mTest (mOp gNe (mCB gRepr (mCons (mVar 4) mNil)) (mCB gRepr (mCons (mOp gMulU (mLst (mCons (mCB gTuple (mCons (mVar 11) mNil)) mNil)) (mC (.int 2))) mNil)))) (mRet (mC (.bool false))) mNext) (mSeq (mAsg (mCB gLen (mCons (mDat H18.lc_law_2) mNil)) (mgName 5)) (mSeq H18.fl_law_4 (mSeq (mAsg (mCB gSum (mCons (mDat H18.lc_law_5) mNil)) (mgName 6)) (mIfS (mTest (mOp gNe (mOp gEq (mVar 11) (mLst mNil)) (mOp gEq (mVar 5) (mVar 6)))) (mRet (mC (.bool false))) mNext))))))))) (stA a2 a3 a4 a5 a6 a7 a8 a9 a10 a11 a12 a13 (f :: olds)) =
      some (.nx (stB hs ws hd gv a2 b3 b4 b5 b6 b12 b13 f' olds (idleF ws hd gv))) := by
  have eh := has_ev g.toOkG0 (ixP_T gv)
  have ei := idle_ev g
  have rf : ∀ n, refsB n (olds ++ [.l ((idleF ws hd gv).map nI)]) = true := ho.add _
  have t1 : ∀ s : Str, decide (s = s) = true := fun s => decide_eq_true rfl
  obtain ⟨s', lp1, b3, b12, rfl⟩ := due_loop (olds := olds) (a2 := a2) (a3 := a3) (a4 := a4) (a5 := a5) (a6 := a6) (a12 := a12) (a13 := a13) (f := f') g.toOkG0
  have il := idleF_len (ws := ws) (hd := hd) (gv := gv)
  have hI : Sh (NT (idleF ws hd gv)) 126 1 := (Sh.nats (fun x hx => by have := il.2 x hx; have := g.gl; omega) (n := 24) (by have := il.1; have := g.gl; omega)).mono (by omega) (by omega)
  have r : gRepr [.list [NT (idleF ws hd gv), NT (idleF ws hd gv)]] = some (.str (PyData.shown (.list [NT (idleF ws hd gv), NT (idleF ws hd gv)]))) := (Sh.list (Sh.cons hI (Sh.cons hI Sh.nil)) (n := 2) (Nat.le_refl 2)).repr (by omega) (by omega)
  obtain ⟨s', lp2, c3, c12, c13, rfl⟩ := left_loop (olds := olds) (a2 := a2) (a3 := b3) (a4 := some (.d (.list [NT (idleF ws hd gv), NT (idleF ws hd gv)]))) (a6 := a6) (a12 := b12) (a13 := a13) (f := f') g l1 l3 wl
  refine ⟨c3, some (.d (.list [NT (idleF ws hd gv), NT (idleF ws hd gv)])), some (.d (nI (givenT gv))), some (.d (nI (comeT ws hd gv))), c12, c13, ?_⟩
  refine seq_nx (s1 := stA a2 a3 a4 a5 a6 (some (.d (net hs ws))) (some (.d (HL hd))) (some (.d (IT gv))) a10 a11 a12 a13 (f' :: olds)) (by simp only [mSeq, mPut, mOp, mVar, mC, mIfS, mTest, mTr, mNot, mAsg, mgName, mgTup, mgSeq, mgCons, mgNil, mCB, mCons, mNil, mRet, mRetN, mNext, mPar, mParO, mParOO, mLstN, mAnd, mOr, mAndV, mOrV, mNotV, mIf, mTup, mLst, mSl, mPart, mNoPart, mCall, mCallK, mCallF, mDrop, mDat, mOwn, mListN, mUn, mStar, seqD, flat_l, flat_k, refs1_l, refs1_k, refsB_nil, refsB_cons, mApp, mPop0, mChain, mIsi, mRange, mItems, mEnum, mAnyI, mYes, seqOf, frz, isiB, truD, perm, List.filterMap_cons, List.filterMap_nil, AP.S.on, vw, vws, dats, wipeS, retD, vwE, gS_eq, sS_eq, st0, List.reduceReplicate, List.getElem?_cons_zero, List.getElem?_cons_succ, List.set_cons_zero, List.set_cons_succ, List.map_cons, List.map_nil, List.length_cons, List.length_nil, List.cons_append, List.nil_append, List.append_nil, and_self, and_true, true_and, if_true, if_false, decide_true, decide_false, Bool.and_self, Bool.and_true, Bool.true_and, Bool.not_true, Bool.not_false, Nat.reduceAdd, Nat.reduceSub, Nat.reduceLeDiff, Nat.reduceEqDiff, Nat.zero_add, Nat.zero_le, Int.reduceLT, Int.reduceNeg, e]) ?_
  refine seq_nx (s1 := stB hs ws hd gv a2 a3 a4 a5 a6 a12 a13 f' olds []) (by simp only [mSeq, mPut, mOp, mVar, mC, mIfS, mTest, mTr, mNot, mAsg, mgName, mgTup, mgSeq, mgCons, mgNil, mCB, mCons, mNil, mRet, mRetN, mNext, mPar, mParO, mParOO, mLstN, mAnd, mOr, mAndV, mOrV, mNotV, mIf, mTup, mLst, mSl, mPart, mNoPart, mCall, mCallK, mCallF, mDrop, mDat, mOwn, mListN, mUn, mStar, seqD, flat_l, flat_k, refs1_l, refs1_k, refsB_nil, refsB_cons, mApp, mPop0, mChain, mIsi, mRange, mItems, mEnum, mAnyI, mYes, seqOf, frz, isiB, truD, perm, List.filterMap_cons, List.filterMap_nil, AP.S.on, vw, vws, dats, wipeS, retD, vwE, gS_eq, sS_eq, st0, List.reduceReplicate, List.getElem?_cons_zero, List.getElem?_cons_succ, List.set_cons_zero, List.set_cons_succ, List.map_cons, List.map_nil, List.length_cons, List.length_nil, List.cons_append, List.nil_append, List.append_nil, and_self, and_true, true_and, if_true, if_false, decide_true, decide_false, Bool.and_self, Bool.and_true, Bool.true_and, Bool.not_true, Bool.not_false, Nat.reduceAdd, Nat.reduceSub, Nat.reduceLeDiff, Nat.reduceEqDiff, Nat.zero_add, Nat.zero_le, Int.reduceLT, Int.reduceNeg, eh]; rfl) ?_
  refine seq_nx lp1 ?_
  refine seq_nx (s1 := stB hs ws hd gv a2 b3 (some (.d (.list [NT (idleF ws hd gv), NT (idleF ws hd gv)]))) a5 a6 b12 a13 f' olds (idleF ws hd gv)) (by simp only [mSeq, mPut, mOp, mVar, mC, mIfS, mTest, mTr, mNot, mAsg, mgName, mgTup, mgSeq, mgCons, mgNil, mCB, mCons, mNil, mRet, mRetN, mNext, mPar, mParO, mParOO, mLstN, mAnd, mOr, mAndV, mOrV, mNotV, mIf, mTup, mLst, mSl, mPart, mNoPart, mCall, mCallK, mCallF, mDrop, mDat, mOwn, mListN, mUn, mStar, seqD, flat_l, flat_k, refs1_l, refs1_k, refsB_nil, refsB_cons, mApp, mPop0, mChain, mIsi, mRange, mItems, mEnum, mAnyI, mYes, seqOf, frz, isiB, truD, perm, List.filterMap_cons, List.filterMap_nil, AP.S.on, vw, vws, dats, wipeS, retD, vwE, gS_eq, sS_eq, st0, List.reduceReplicate, List.getElem?_cons_zero, List.getElem?_cons_succ, List.set_cons_zero, List.set_cons_succ, List.map_cons, List.map_nil, List.length_cons, List.length_nil, List.cons_append, List.nil_append, List.append_nil, and_self, and_true, true_and, if_true, if_false, decide_true, decide_false, Bool.and_self, Bool.and_true, Bool.true_and, Bool.not_true, Bool.not_false, Nat.reduceAdd, Nat.reduceSub, Nat.reduceLeDiff, Nat.reduceEqDiff, Nat.zero_add, Nat.zero_le, Int.reduceLT, Int.reduceNeg, ei]) ?_
  refine seq_nx (s1 := stB hs ws hd gv a2 b3 (some (.d (.list [NT (idleF ws hd gv), NT (idleF ws hd gv)]))) a5 a6 b12 a13 f' olds (idleF ws hd gv)) (by simp only [mSeq, mPut, mOp, mVar, mC, mIfS, mTest, mTr, mNot, mAsg, mgName, mgTup, mgSeq, mgCons, mgNil, mCB, mCons, mNil, mRet, mRetN, mNext, mPar, mParO, mParOO, mLstN, mAnd, mOr, mAndV, mOrV, mNotV, mIf, mTup, mLst, mSl, mPart, mNoPart, mCall, mCallK, mCallF, mDrop, mDat, mOwn, mListN, mUn, mStar, seqD, flat_l, flat_k, refs1_l, refs1_k, refsB_nil, refsB_cons, mApp, mPop0, mChain, mIsi, mRange, mItems, mEnum, mAnyI, mYes, seqOf, frz, isiB, truD, perm, List.filterMap_cons, List.filterMap_nil, AP.S.on, vw, vws, dats, wipeS, retD, vwE, gS_eq, sS_eq, st0, List.reduceReplicate, List.getElem?_cons_zero, List.getElem?_cons_succ, List.set_cons_zero, List.set_cons_succ, List.map_cons, List.map_nil, List.length_cons, List.length_nil, List.cons_append, List.nil_append, List.append_nil, and_self, and_true, true_and, if_true, if_false, decide_true, decide_false, Bool.and_self, Bool.and_true, Bool.true_and, Bool.not_true, Bool.not_false, Nat.reduceAdd, Nat.reduceSub, Nat.reduceLeDiff, Nat.reduceEqDiff, Nat.zero_add, Nat.zero_le, Int.reduceLT, Int.reduceNeg, r, eA, gTupL, mul2L, PL.gNeS, t1]) ?_
  refine seq_nx (s1 := stB hs ws hd gv a2 b3 (some (.d (.list [NT (idleF ws hd gv), NT (idleF ws hd gv)]))) (some (.d (nI (givenT gv)))) a6 b12 a13 f' olds (idleF ws hd gv)) ?_ ?_
  · have lc := lc2_ev g.toOkG0 (a2 := a2) (a3 := b3) (a4 := some (.d (.list [NT (idleF ws hd gv), NT (idleF ws hd gv)]))) (a5 := a5) (a6 := a6) (a12 := b12) (a13 := a13) (f := f') (olds := olds) (ks := idleF ws hd gv)
    simp only [mSeq, mPut, mOp, mVar, mC, mIfS, mTest, mTr, mNot, mAsg, mgName, mgTup, mgSeq, mgCons, mgNil, mCB, mCons, mNil, mRet, mRetN, mNext, mPar, mParO, mParOO, mLstN, mAnd, mOr, mAndV, mOrV, mNotV, mIf, mTup, mLst, mSl, mPart, mNoPart, mCall, mCallK, mCallF, mDrop, mDat, mOwn, mListN, mUn, mStar, seqD, flat_l, flat_k, refs1_l, refs1_k, refsB_nil, refsB_cons, mApp, mPop0, mChain, mIsi, mRange, mItems, mEnum, mAnyI, mYes, seqOf, frz, isiB, truD, perm, List.filterMap_cons, List.filterMap_nil, AP.S.on, vw, vws, dats, wipeS, retD, vwE, gS_eq, sS_eq, st0, List.reduceReplicate, List.getElem?_cons_zero, List.getElem?_cons_succ, List.set_cons_zero, List.set_cons_succ, List.map_cons, List.map_nil, List.length_cons, List.length_nil, List.cons_append, List.nil_append, List.append_nil, and_self, and_true, true_and, if_true, if_false, decide_true, decide_false, Bool.and_self, Bool.and_true, Bool.true_and, Bool.not_true, Bool.not_false, Nat.reduceAdd, Nat.reduceSub, Nat.reduceLeDiff, Nat.reduceEqDiff, Nat.zero_add, Nat.zero_le, Int.reduceLT, Int.reduceNeg, lc, hf.rf, rf, gLenL, List.length_map, given_len]
  refine seq_nx lp2 ?_
  refine seq_nx (s1 := stB hs ws hd gv a2 c3 (some (.d (.list [NT (idleF ws hd gv), NT (idleF ws hd gv)]))) (some (.d (nI (givenT gv)))) (some (.d (nI (comeT ws hd gv)))) c12 c13 f' olds (idleF ws hd gv)) ?_ ?_
  · have lc := lc5_ev g.toOkG0 (a2 := a2) (a3 := c3) (a4 := some (.d (.list [NT (idleF ws hd gv), NT (idleF ws hd gv)]))) (a5 := some (.d (nI (givenT gv)))) (a6 := a6) (a12 := c12) (a13 := c13) (f := f') (olds := olds) (ks := idleF ws hd gv)
    simp only [mSeq, mPut, mOp, mVar, mC, mIfS, mTest, mTr, mNot, mAsg, mgName, mgTup, mgSeq, mgCons, mgNil, mCB, mCons, mNil, mRet, mRetN, mNext, mPar, mParO, mParOO, mLstN, mAnd, mOr, mAndV, mOrV, mNotV, mIf, mTup, mLst, mSl, mPart, mNoPart, mCall, mCallK, mCallF, mDrop, mDat, mOwn, mListN, mUn, mStar, seqD, flat_l, flat_k, refs1_l, refs1_k, refsB_nil, refsB_cons, mApp, mPop0, mChain, mIsi, mRange, mItems, mEnum, mAnyI, mYes, seqOf, frz, isiB, truD, perm, List.filterMap_cons, List.filterMap_nil, AP.S.on, vw, vws, dats, wipeS, retD, vwE, gS_eq, sS_eq, st0, List.reduceReplicate, List.getElem?_cons_zero, List.getElem?_cons_succ, List.set_cons_zero, List.set_cons_succ, List.map_cons, List.map_nil, List.length_cons, List.length_nil, List.cons_append, List.nil_append, List.append_nil, and_self, and_true, true_and, if_true, if_false, decide_true, decide_false, Bool.and_self, Bool.and_true, Bool.true_and, Bool.not_true, Bool.not_false, Nat.reduceAdd, Nat.reduceSub, Nat.reduceLeDiff, Nat.reduceEqDiff, Nat.zero_add, Nat.zero_le, Int.reduceLT, Int.reduceNeg, lc, hf.rf, rf, come_sum g.toOkG0]
  have fin : ((idleF ws hd gv).isEmpty != (((givenT gv : Nat) : Int) == ((comeT ws hd gv : Nat) : Int))) = false := by
    have := idle_come g.toOkG0
    rw [bne_eq_false_iff_eq, Bool.eq_iff_iff, List.isEmpty_iff, beq_iff_eq, this]
    omega
  simp only [mSeq, mPut, mOp, mVar, mC, mIfS, mTest, mTr, mNot, mAsg, mgName, mgTup, mgSeq, mgCons, mgNil, mCB, mCons, mNil, mRet, mRetN, mNext, mPar, mParO, mParOO, mLstN, mAnd, mOr, mAndV, mOrV, mNotV, mIf, mTup, mLst, mSl, mPart, mNoPart, mCall, mCallK, mCallF, mDrop, mDat, mOwn, mListN, mUn, mStar, seqD, flat_l, flat_k, refs1_l, refs1_k, refsB_nil, refsB_cons, mApp, mPop0, mChain, mIsi, mRange, mItems, mEnum, mAnyI, mYes, seqOf, frz, isiB, truD, perm, List.filterMap_cons, List.filterMap_nil, AP.S.on, vw, vws, dats, wipeS, retD, vwE, gS_eq, sS_eq, st0, List.reduceReplicate, List.getElem?_cons_zero, List.getElem?_cons_succ, List.set_cons_zero, List.set_cons_succ, List.map_cons, List.map_nil, List.length_cons, List.length_nil, List.cons_append, List.nil_append, List.append_nil, and_self, and_true, true_and, if_true, if_false, decide_true, decide_false, Bool.and_self, Bool.and_true, Bool.true_and, Bool.not_true, Bool.not_false, Nat.reduceAdd, Nat.reduceSub, Nat.reduceLeDiff, Nat.reduceEqDiff, Nat.zero_add, Nat.zero_le, Int.reduceLT, Int.reduceNeg, eA, gEq_nilL, PL.gEqI, gNeB, fin]
theorem law_ok : lawOkK (Str.ofString "spot") (Str.ofString "left") (Str.ofString "drawn") 16 H18.m_law := by
  intro ns _
  obtain ⟨s', q, _⟩ := forT (im := mRange (mCons (mC (.int 3)) mNil)) (g := mgName 2) (b := H18.fb_law_6) (s := stA none none none none none none none none none none none none [feed0K (Str.ofString "spot") (Str.ofString "left") (Str.ofString "drawn") ns]) (o1 := [feed0K (Str.ofString "spot") (Str.ofString "left") (Str.ofString "drawn") ns]) nI (List.range 3)
    (fun i s => ∃ f olds a2 a3 a4 a5 a6 a7 a8 a9 a10 a11 a12 a13, s = stA a2 a3 a4 a5 a6 a7 a8 a9 a10 a11 a12 a13 (f :: olds) ∧ PF2.FeedOk f ∧ Olds olds) (mRange_nat 3 (by omega) _ _ _ (by simp only [mSeq, mPut, mOp, mVar, mC, mIfS, mTest, mTr, mNot, mAsg, mgName, mgTup, mgSeq, mgCons, mgNil, mCB, mCons, mNil, mRet, mRetN, mNext, mPar, mParO, mParOO, mLstN, mAnd, mOr, mAndV, mOrV, mNotV, mIf, mTup, mLst, mSl, mPart, mNoPart, mCall, mCallK, mCallF, mDrop, mDat, mOwn, mListN, mUn, mStar, seqD, flat_l, flat_k, refs1_l, refs1_k, refsB_nil, refsB_cons, mApp, mPop0, mChain, mIsi, mRange, mItems, mEnum, mAnyI, mYes, seqOf, frz, isiB, truD, perm, List.filterMap_cons, List.filterMap_nil, AP.S.on, vw, vws, dats, wipeS, retD, vwE, gS_eq, sS_eq, st0, List.reduceReplicate, List.getElem?_cons_zero, List.getElem?_cons_succ, List.set_cons_zero, List.set_cons_succ, List.map_cons, List.map_nil, List.length_cons, List.length_nil, List.cons_append, List.nil_append, List.append_nil, and_self, and_true, true_and, if_true, if_false, decide_true, decide_false, Bool.and_self, Bool.and_true, Bool.true_and, Bool.not_true, Bool.not_false, Nat.reduceAdd, Nat.reduceSub, Nat.reduceLeDiff, Nat.reduceEqDiff, Nat.zero_add, Nat.zero_le, Int.reduceLT, Int.reduceNeg]; rfl)) ⟨_, [], none, none, none, none, none, none, none, none, none, none, none, none, rfl, FO.init ns, fun _ => rfl⟩ (by
    rintro i x s hi ⟨f, olds, a2, a3, a4, a5, a6, a7, a8, a9, a10, a11, a12, a13, rfl, hf, ho⟩
    obtain ⟨hs, ws, hd, gv, f', e, g, l1, l2, l3, hf'⟩ := drawn_ev hf
    obtain ⟨b3, b4, b5, b6, b12, b13, e2⟩ := lap e g (by omega) (by omega) (by omega) hf' ho (a2 := some (.d (nI x))) (a3 := a3) (a4 := a4) (a5 := a5) (a6 := a6) (a7 := a7) (a8 := a8) (a9 := a9) (a10 := a10) (a11 := a11) (a12 := a12) (a13 := a13)
    exact ⟨_, _, rfl, .inl e2, f', olds ++ [.l ((idleF ws hd gv).map nI)], _, _, _, _, _, _, _, _, _, _, _, _, rfl, hf', ho.add _⟩)
  refine ⟨s'.o, ?_⟩
  unfold H18.m_law H18.m_law_1 H18.fl_law_7
  exact seq_nx q rfl
end
end
end R18

theorem PySem.Challenge.cw_allpieces_k18_whole_idle_wires_holds : PySem.Challenge.rw_allpieces_k18_whole_idle_wires.Holds := by
  letI : AP.Tbls := AP.noTbls
  exact H18.holds R18.law_ok


