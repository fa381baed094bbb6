import PyProof.Rows.All
import Wide.All
import OpenK.AllK
import Wide.FinOn
import HandS.ForMost
import HandS.Exc
import HandS.TryOnly
import HandS.ExcOwn
import HandS.WordsExc
import HandS.Codes
import HandS.IsInst
import HandS.Walk
import HandS.AnyAll
import KE.GoesEnum
import KE.KExcIs
import HandS.ExcInit
import HandS.ExcField
import HandS.ExcIs
import HandS.SetFor
import HandS.TupAny
import HandS.TupMul
import PyProof.EqAt
import PyProof.NeKinds
import HandS.FStr
import HandS.More
import HandS.Deep
import HandS.SortRule
import HandS.Conv
import HandS.Style
import HandS.Zip
import PySem.Challenge.RW_blindslots_k39_least_lengths_of_an_order
set_option Elab.async false
set_option linter.all false
set_option maxRecDepth 100000
set_option maxHeartbeats 8000000
/-! what every text of ours needs: a def as it stands, its call, the drawing store -/
namespace Vk
open PySem PySem.Spec PyProof.Rows L2
/-- a def of the module's top -/
structure Df (K : PySem.W.Frag) (mg : Str → Option Value) (x : Str) (st : Stmt) (ps : List Str) : Prop where
  ex : ∃ f fd, mg x = some (.ref f) ∧ Fun K x x st f fd ∧ Binds K fd ps []
/-- its promise -/
structure Cl (P : Program) (w : World) (K : PySem.W.Frag) (mg : Str → Option Value) (base : Heap) (CX : CXT) (k : Nat) (x : Str) (ps : List Str) (sp : Sp) : Prop where
  ex : ∃ f fd, mg x = some (.ref f) ∧ PySem.W.keepIn K (.ref f) = true ∧ Binds K fd ps [] ∧ FnOk P w K mg base CX k f fd ps sp
section
variable {P : Program} {w : World} {K : PySem.W.Frag} {mg : Str → Option Value} {base : Heap}
theorem cl0 {x : Str} {st : Stmt} {N ps : List Str} {k : Nat} {sp : Sp} (D : Df K mg x st ps) (S : FnScope N ps (defScope st)) (len : ∀ vs H Q E, sp vs H Q E → vs.length = ps.length)
    (body : ∀ (f : Addr) (cdv : Value) (A : Around) (outer : List Env) (s : Shared) (H : Hp) (vs : List V) (Q : VK) (E : XK), Room k (A.deeper (envOfC x (defScope st) s.heap.objs.size f cdv)) → sp vs H Q E →
      ∃ t, PSs (cxOf CX0 P w K mg base N x (defScope st) f cdv A outer s H E).nox (defBody st) t ∧ t { nx := fun _ H' => Q .non H', rt := Q } (start N vs) H) : Cl P w K mg base CX0 (k + 1) x ps sp := by
  obtain ⟨f, fd, hm, F, b⟩ := D.ex
  exact ⟨f, fd, hm, F.kp, b, F.ok S len (body f)⟩
theorem clX {x : Str} {st : Stmt} {N ps : List Str} {k : Nat} {sp : Sp} (D : Df K mg x st ps) (S : FnScope N ps (defScope st)) (len : ∀ vs H Q E, sp vs H Q E → vs.length = ps.length)
    (body : ∀ (f : Addr) (cdv : Value) (A : Around) (outer : List Env) (s : Shared) (H : Hp) (vs : List V) (Q : VK) (E : XK), Room k (A.deeper (envOfC x (defScope st) s.heap.objs.size f cdv)) → sp vs H Q E →
      ∃ t, PSs (cxOf (L2.CX P w) P w K mg base N x (defScope st) f cdv A outer s H E) (defBody st) t ∧ t { nx := fun _ H' => Q .non H', rt := Q } (start N vs) H) : Cl P w K mg base (L2.CX P w) (k + 1) x ps sp := by
  obtain ⟨f, fd, hm, F, b⟩ := D.ex
  exact ⟨f, fd, hm, F.kp, b, F.okX S len (body f)⟩
end
def tCal (sp : Sp) (t : TA) : TE := fun σ H Q => t σ H fun vs H1 => sp (vs ++ []) H1 Q E0
section
variable {X : Cx}
theorem pc {x : Str} {ps : List Str} {sp : Sp} {j k : Nat} {e : Expr} {es : List Expr} {t : TA} {p pos : Pos} (c : Cl X.prog X.w X.K X.mg X.base CX0 k x ps sp) (hr : Room j X.A) (hk : k ≤ j) (ha : PA X (e :: es) t) (hg : Gl X x := by rfl)
    (hdb : (x == ("__debug__" : Str)) = false := by decide) (he : starEach (e :: es) X.env = (false, eval e X.env) :: starEach es X.env := by rfl) (hpl : (backTo pos (starEach es X.env)).any (·.1) = false := by rfl) :
    PE X (.Call (.Name x p) (e :: es) [] pos) (tCal sp t) := by
  obtain ⟨f, fd, hm, kp, b, F⟩ := c.ex
  exact pe_call F (hr.mono hk) hg hm kp b .nil pass0 ha hdb he hpl
end
/-! ### heaps -/
def NoTbl : HO → Prop
  | .tbl _ => False
  | _ => True
/-- all that was tracked is as it was, but that tables of code objects may have grown -/
structure Same (H H' : Hp) : Prop where
  at_ : ∀ b o, H b = some o → NoTbl o → H' b = some o
  has : ∀ b, H b ≠ none → H' b ≠ none
  tab : ∀ P, GxR.TabG H P → GxR.TabG H' P
theorem Same.at {H H' : Hp} {b : Addr} {o : HO} (s : Same H H') (h : H b = some o) (n : NoTbl o := by exact True.intro) : H' b = some o := s.at_ b o h n
theorem Same.refl (H : Hp) : Same H H := ⟨fun _ _ h _ => h, fun _ h => h, fun _ h => h⟩
theorem Same.trans {H H1 H2 : Hp} (a : Same H H1) (b : Same H1 H2) : Same H H2 := ⟨fun c o h n => b.at_ c o (a.at_ c o h n) n, fun c h => b.has c (a.has c h), fun P h => b.tab P (a.tab P h)⟩
theorem Same.of {H H' : Hp} (h : ∀ b o, H b = some o → H' b = some o) : Same H H' := by
  refine ⟨fun b o e _ => h b o e, fun b e => ?_, fun P ⟨ps, e, t⟩ => ⟨ps, h _ _ e, t⟩⟩
  cases q : H b with
  | none => exact absurd q e
  | some o =>
    rw [h b o q]
    exact fun z => nomatch z
theorem Same.free {H H' : Hp} (e : Same H H') {l : Addr} (h : H' l = none) : H l = none := by
  cases q : H l with
  | none => rfl
  | some o => exact absurd h (e.has l (by rw [q]; exact fun z => nomatch z))
theorem Same.seq {K : PySem.W.Frag} {H H' : Hp} {a : Addr} {xs : List V} (e : Same H H') (h : SqL K H a xs) : SqL K H' a xs := by
  rcases h with (h | ⟨o, h⟩) | h
  · exact .inl (.inl (e.at h))
  · exact .inl (.inr ⟨o, e.at h⟩)
  · exact .inr h
theorem ne_has {H : Hp} {a p : Addr} (h : H a ≠ none) (n : H p = none) : p ≠ a := fun z => h (z ▸ n)
theorem has_of {H : Hp} {a : Addr} {o : HO} (h : H a = some o) : H a ≠ none := by
  rw [h]
  exact fun z => nomatch z
/-- a table grows -/
theorem same_tabbed {P : Addr} {H H' : Hp} (h : GxR.Tabbed P H H') (h0 : GxR.TabG H P) : Same H H' := by
  obtain ⟨⟨ps', e', t'⟩, k⟩ := h
  obtain ⟨ps, e, t⟩ := h0
  refine ⟨fun b o q n => ?_, fun b q => ?_, fun Q hq => ?_⟩
  · by_cases z : b = P
    · rw [z, e] at q
      cases q
      exact False.elim n
    · rw [k b z]
      exact q
  · by_cases z : b = P
    · rw [z, e']
      exact fun z => nomatch z
    · rw [k b z]
      exact q
  · by_cases z : Q = P
    · rw [z]
      exact ⟨ps', e', t'⟩
    · obtain ⟨qs, f, u⟩ := hq
      exact ⟨qs, by rw [k Q z]; exact f, u⟩
/-- the heap without what stands at a -/
def Off (a : Addr) (H : Hp) : Hp := fun b => if b = a then none else H b
theorem off_ne {a b : Addr} {H : Hp} (h : b ≠ a) : Off a H b = H b := if_neg h
theorem off_same {a : Addr} {H : Hp} : Off a H a = none := if_pos rfl
theorem off_some {a b : Addr} {H : Hp} {o : HO} (e : Off a H b = some o) : b ≠ a ∧ H b = some o := by
  by_cases h : b = a
  · rw [h, off_same] at e; cases e
  · exact ⟨h, by rw [off_ne h] at e; exact e⟩
theorem off_sub (a : Addr) (H : Hp) : Same (Off a H) H := .of fun b o e => (off_some e).2
theorem off_mono {a : Addr} {H H' : Hp} (s : Same H H') : Same (Off a H) (Off a H') := by
  refine ⟨fun b o e n => ?_, fun b e => ?_, fun P ⟨ps, e, t⟩ => ?_⟩
  · obtain ⟨h1, h2⟩ := off_some e
    rw [off_ne h1]
    exact s.at_ b o h2 n
  · by_cases h : b = a
    · rw [h, off_same] at e
      exact absurd rfl e
    · rw [off_ne h] at e ⊢
      exact s.has b e
  · obtain ⟨h1, h2⟩ := off_some e
    obtain ⟨qs, f, u⟩ := s.tab P ⟨ps, h2, t⟩
    exact ⟨qs, by rw [off_ne h1]; exact f, u⟩
theorem off_upd {a : Addr} {H : Hp} {o : HO} : Off a (upd H a o) = Off a H := by
  funext b
  by_cases h : b = a
  · rw [h, off_same, off_same]
  · rw [off_ne h, off_ne h, upd_ne h]
theorem same_new {H : Hp} {p : Addr} {o : HO} (h : H p = none) : Same H (upd H p o) := .of fun b u e => by
  rw [upd_ne (ne_of_none e h)]; exact e
theorem same_seqT {K : PySem.W.Frag} {H H' : Hp} {a : Addr} {xs : List V} (e : Same H H') (h : SqT K H a xs) : SqT K H' a xs := by
  rcases h with (h | ⟨o, h⟩) | h
  · exact .inl (.inl (e.at h))
  · exact .inl (.inr ⟨o, e.at h⟩)
  · exact .inr h
mutual
theorem dp_same {K : PySem.W.Frag} {H H' : Hp} (e : Same H H') : ∀ {v : V} {d : PyData}, Dp K H v d → Dp K H' v d
  | _, _, .non => .non
  | _, _, .bl b => .bl b
  | _, _, .int i => .int i
  | _, _, .str x => .str x
  | _, _, .lst h r => .lst (e.seq h) (dps_same e r)
  | _, _, .tup h r => .tup (same_seqT e h) (dps_same e r)
theorem dps_same {K : PySem.W.Frag} {H H' : Hp} (e : Same H H') : ∀ {vs : List V} {ds : List PyData}, DpAll K H vs ds → DpAll K H' vs ds
  | _, _, .nil => .nil
  | _, _, .cons h r => .cons (dp_same e h) (dps_same e r)
end
/-! ### the law's store: cells, next index, digits, all mixed, draws so far (at most n) -/
structure Sto (sc a : Addr) (n : Int) (H : Hp) : Prop where
  ex : ∃ (cs : List Int) (i dg mx c : Int), H a = some (.lst [.ref sc, .int i, .int dg, .int mx, .int c]) ∧ sc ≠ a ∧ H sc = some (.lst (cs.map V.int)) ∧ cs.length ≤ 63 ∧ 0 ≤ i ∧ 0 ≤ dg ∧ 0 ≤ c ∧ c ≤ n
theorem Sto.more {sc a : Addr} {n m : Int} {H : Hp} (s : Sto sc a n H) (h : n ≤ m) : Sto sc a m H := by
  obtain ⟨x2, x3, x4, x5, x6, h1, h2, h3, h4, h5, h6, h7, h8⟩ := s.ex
  exact ⟨x2, x3, x4, x5, x6, h1, h2, h3, h4, h5, h6, h7, by omega⟩
/-- all else stands -/
def Kept (a : Addr) (H H' : Hp) : Prop := Same (Off a H) (Off a H')
theorem Kept.refl (a : Addr) (H : Hp) : Kept a H H := Same.refl _
theorem Kept.trans {a : Addr} {H H1 H2 : Hp} (x : Kept a H H1) (y : Kept a H1 H2) : Kept a H H2 := Same.trans x y
theorem kept_same {a : Addr} {H H' : Hp} (s : Same H H') : Kept a H H' := off_mono s
theorem Sto.same {sc a : Addr} {n : Int} {H H' : Hp} (s : Sto sc a n H) (e : Same H H') : Sto sc a n H' := by
  obtain ⟨x2, x3, x4, x5, x6, h1, h2, h3, h4⟩ := s.ex
  exact ⟨x2, x3, x4, x5, x6, e.at h1, h2, e.at h3, h4⟩
theorem Sto.put {sc a : Addr} {n : Int} {H : Hp} {cs : List Int} {i dg mx c : Int} (hs : sc ≠ a) (hq : H sc = some (.lst (cs.map V.int))) (hl : cs.length ≤ 63) (hi : 0 ≤ i) (hd : 0 ≤ dg) (hc : 0 ≤ c) (hn : c ≤ n) :
    Sto sc a n (upd H a (.lst [.ref sc, .int i, .int dg, .int mx, .int c])) :=
  ⟨cs, i, dg, mx, c, upd_same, hs, by rw [upd_ne hs]; exact hq, hl, hi, hd, hc, hn⟩
/-- another list changes -/
theorem Sto.other {sc a l : Addr} {n : Int} {H : Hp} {o : HO} (s : Sto sc a n H) (h1 : l ≠ a) (h2 : l ≠ sc) : Sto sc a n (upd H l o) := by
  obtain ⟨x2, x3, x4, x5, x6, g1, g2, g3, g4⟩ := s.ex
  exact ⟨x2, x3, x4, x5, x6, by rw [upd_ne h1.symm]; exact g1, g2, by rw [upd_ne h2.symm]; exact g3, g4⟩
theorem Sto.ne {sc a p : Addr} {n : Int} {H : Hp} (s : Sto sc a n H) (h : H p = none) : p ≠ a := by
  obtain ⟨_, _, _, _, _, h1, _⟩ := s.ex
  exact (ne_of_none h1 h).symm
theorem Sto.ne2 {sc a p : Addr} {n : Int} {H : Hp} (s : Sto sc a n H) (h : H p = none) : p ≠ sc := by
  obtain ⟨_, _, _, _, _, _, _, h1, _⟩ := s.ex
  exact (ne_of_none h1 h).symm
theorem kept_put {a : Addr} {H : Hp} {o : HO} : Kept a H (upd H a o) := by unfold Kept; rw [off_upd]; exact Same.refl _
theorem Sto.hasA {sc a : Addr} {n : Int} {H : Hp} (s : Sto sc a n H) : H a ≠ none := by
  obtain ⟨_, _, _, _, _, h1, _⟩ := s.ex
  exact has_of h1
theorem Sto.tab {sc a P : Addr} {n : Int} {H : Hp} (s : Sto sc a n H) (t : GxR.TabG H P) : GxR.TabG (Off a H) P := by
  obtain ⟨_, _, _, _, _, h1, _⟩ := s.ex
  obtain ⟨ps, e, u⟩ := t
  exact ⟨ps, by rw [off_ne (ne_of h1 e (fun z => nomatch z)).symm]; exact e, u⟩
theorem Kept.tab {sc a P : Addr} {n : Int} {H H' : Hp} (k : Kept a H H') (s : Sto sc a n H) (t : GxR.TabG H P) : GxR.TabG H' P := (off_sub a H').tab P (Same.tab k P (s.tab t))
end Vk
namespace Vk
open PySem
def top (i : Nat) : Stmt := PySem.Challenge.pw_blindslots_k39_least_lengths_of_an_order.main.body.getD i (.Pass ⟨0, 0, 0, 0⟩)
abbrev sInteger : Stmt := top 15
abbrev sCheckLen : Stmt := top 17
abbrev sRobOrder : Stmt := top 19
abbrev sLeast : Stmt := top 20
abbrev sCheckRob : Stmt := top 21
abbrev sCheckOrd : Stmt := top 22
abbrev sMix : Stmt := top 24
abbrev sStore : Stmt := top 25
abbrev sPick : Stmt := top 26
abbrev sInt : Stmt := top 27
abbrev sKind : Stmt := top 28
abbrev sOrderOf : Stmt := top 29
abbrev sLonger : Stmt := top 30
abbrev sBad : Stmt := top 31
abbrev sError : Stmt := top 32
abbrev sLaw : Stmt := top 33
end Vk
/-! values as data: kinds, integers, tuples -/
namespace Vk
open PySem PySem.Spec PyProof.Rows L2
def tyN : PyData → String
  | .none => "NoneType"
  | .bool _ => "bool"
  | .int _ => "int"
  | .str _ => "str"
  | .list _ => "list"
  | .tuple _ => "tuple"
  | .dict _ => "dict"
theorem dp_ty {K : PySem.W.Frag} {H : Hp} {v : V} {d : PyData} (h : Dp K H v d) : TyX K H v (.type (tyN d)) := by
  cases h with
  | non => exact .base .non
  | bl b => exact .base (.bl b)
  | int i => exact .base (.int i)
  | str x => exact .base (.str x)
  | lst q _ =>
    rcases q with (q | ⟨o, q⟩) | ⟨o, its, n, hk, hc, _⟩
    · exact .base (.lst q)
    · exact .base (.frz q)
    · exact .kList hk hc
  | tup q _ =>
    rcases q with (q | ⟨o, q⟩) | ⟨o, its, n, hk, hc, _⟩
    · exact .base (.tup q)
    · exact .fTuple q
    · exact .kTuple hk hc
def isIntD : PyData → Bool
  | .bool _ => true
  | .int _ => true
  | _ => false
def isBoolD : PyData → Bool
  | .bool _ => true
  | _ => false
def isTupD : PyData → Bool
  | .tuple _ => true
  | _ => false
def isStrD : PyData → Bool
  | .str _ => true
  | _ => false
section
variable {K : PySem.W.Frag} {H : Hp} {v : V} {d : PyData}
theorem kit_int (h : Dp K H v d) : PySem.W.kitOne K (.type (tyN d)) (.type "int") = some (isIntD d) := by
  cases h with
  | non => exact kit_ty (show kitB "NoneType" "int" = some false by decide +kernel)
  | bl _ => exact kit_ty (show kitB "bool" "int" = some true by decide +kernel)
  | int _ => exact kit_ty (show kitB "int" "int" = some true by decide +kernel)
  | str _ => exact kit_ty (show kitB "str" "int" = some false by decide +kernel)
  | lst _ _ => exact kit_ty (show kitB "list" "int" = some false by decide +kernel)
  | tup _ _ => exact kit_ty (show kitB "tuple" "int" = some false by decide +kernel)
theorem kit_bool (h : Dp K H v d) : PySem.W.kitOne K (.type (tyN d)) (.type "bool") = some (isBoolD d) := by
  cases h with
  | non => exact kit_ty (show kitB "NoneType" "bool" = some false by decide +kernel)
  | bl _ => exact kit_ty (show kitB "bool" "bool" = some true by decide +kernel)
  | int _ => exact kit_ty (show kitB "int" "bool" = some false by decide +kernel)
  | str _ => exact kit_ty (show kitB "str" "bool" = some false by decide +kernel)
  | lst _ _ => exact kit_ty (show kitB "list" "bool" = some false by decide +kernel)
  | tup _ _ => exact kit_ty (show kitB "tuple" "bool" = some false by decide +kernel)
theorem kit_tup (h : Dp K H v d) : PySem.W.kitOne K (.type (tyN d)) (.type "tuple") = some (isTupD d) := by
  cases h with
  | non => exact kit_ty (show kitB "NoneType" "tuple" = some false by decide +kernel)
  | bl _ => exact kit_ty (show kitB "bool" "tuple" = some false by decide +kernel)
  | int _ => exact kit_ty (show kitB "int" "tuple" = some false by decide +kernel)
  | str _ => exact kit_ty (show kitB "str" "tuple" = some false by decide +kernel)
  | lst _ _ => exact kit_ty (show kitB "list" "tuple" = some false by decide +kernel)
  | tup _ _ => exact kit_ty (show kitB "tuple" "tuple" = some true by decide +kernel)
theorem kit_strT (h : Dp K H v d) : PySem.W.kitOne K (.type (tyN d)) (.type "str") = some (isStrD d) := by
  cases h with
  | non => exact kit_ty (show kitB "NoneType" "str" = some false by decide +kernel)
  | bl _ => exact kit_ty (show kitB "bool" "str" = some false by decide +kernel)
  | int _ => exact kit_ty (show kitB "int" "str" = some false by decide +kernel)
  | str _ => exact kit_ty (show kitB "str" "str" = some true by decide +kernel)
  | lst _ _ => exact kit_ty (show kitB "list" "str" = some false by decide +kernel)
  | tup _ _ => exact kit_ty (show kitB "tuple" "str" = some false by decide +kernel)
theorem dp_tuple {ds : List PyData} (h : Dp K H v (.tuple ds)) : ∃ a xs, v = .ref a ∧ SqT K H a xs ∧ DpAll K H xs ds := by
  cases h with
  | tup q r => exact ⟨_, _, rfl, q, r⟩
theorem dp_int {i : Int} (h : Dp K H v (.int i)) : v = .int i := by
  cases h
  rfl
theorem dp_bool {i : Bool} (h : Dp K H v (.bool i)) : v = .bl i := by
  cases h
  rfl
theorem dp_str {i : Str} (h : Dp K H v (.str i)) : v = .str i := by
  cases h
  rfl
theorem dp_none (h : Dp K H v .none) : v = .non := by
  cases h
  rfl
theorem dps_len : ∀ {vs : List V} {ds : List PyData}, DpAll K H vs ds → vs.length = ds.length
  | _, _, .nil => rfl
  | _, _, .cons _ r => congrArg (· + 1) (dps_len r)
theorem dps_get : ∀ {vs : List V} {ds : List PyData} {i : Nat} {d : PyData}, DpAll K H vs ds → ds[i]? = some d → ∃ v, vs[i]? = some v ∧ Dp K H v d
  | _, _, 0, _, .cons h _, e => by cases e; exact ⟨_, rfl, h⟩
  | _, _, i + 1, _, .cons _ r, e => by
    obtain ⟨v, h1, h2⟩ := dps_get r (i := i) (by simpa using e)
    exact ⟨v, by simpa using h1, h2⟩
theorem dps_getV : ∀ {vs : List V} {ds : List PyData} {i : Nat} {v : V}, DpAll K H vs ds → vs[i]? = some v → ∃ d, ds[i]? = some d ∧ Dp K H v d
  | _, _, 0, _, .cons h _, e => by cases e; exact ⟨_, rfl, h⟩
  | _, _, i + 1, _, .cons _ r, e => by
    obtain ⟨v, h1, h2⟩ := dps_getV r (i := i) (by simpa using e)
    exact ⟨v, by simpa using h1, h2⟩
theorem dps_app : ∀ {vs us : List V} {ds es : List PyData}, DpAll K H vs ds → DpAll K H us es → DpAll K H (vs ++ us) (ds ++ es)
  | _, _, _, _, .nil, h => h
  | _, _, _, _, .cons h r, q => .cons h (dps_app r q)
theorem dps_take : ∀ {vs : List V} {ds : List PyData} (n : Nat), DpAll K H vs ds → DpAll K H (vs.take n) (ds.take n)
  | _, _, 0, _ => .nil
  | _, _, n + 1, .nil => .nil
  | _, _, n + 1, .cons h r => .cons h (dps_take n r)
theorem dps_drop : ∀ {vs : List V} {ds : List PyData} (n : Nat), DpAll K H vs ds → DpAll K H (vs.drop n) (ds.drop n)
  | _, _, 0, h => h
  | _, _, n + 1, .nil => .nil
  | _, _, n + 1, .cons h r => dps_drop n r
/-- flat data -/
def flatD : PyData → Bool
  | .none => true
  | .bool _ => true
  | .int _ => true
  | .str _ => true
  | _ => false
theorem dp_flat (h : Dp K H v d) : flatV v = flatD d := by
  cases h <;> rfl
end
/-- an integer from a least one on -/
def integerD (least : Int) : PyData → Bool
  | .int i => decide (least ≤ i)
  | _ => false
def tupleND (n : Int) : PyData → Bool
  | .tuple ds => decide ((ds.length : Int) = n)
  | _ => false
/-! ### their defs' promises -/
def spInteger (K : PySem.W.Frag) : Sp := fun vs H Q _ => ∃ (v : V) (d : PyData) (least : Int), vs = [v, .int least] ∧ Dp K H v d ∧ Q (.bl (integerD least d)) H
def spTupleOf (K : PySem.W.Frag) : Sp := fun vs H Q _ => ∃ (v : V) (d : PyData) (n : Int), vs = [v, .int n] ∧ Dp K H v d ∧ Q (.bl (tupleND n d)) H
structure Blt (mg : Str → Option Value) : Prop where
  len : mg "len" = none
  isi : mg "isinstance" = none
  int : mg "int" = none
  bool : mg "bool" = none
  tuple : mg "tuple" = none
  str : mg "str" = none
  range : mg "range" = none
  enum : mg "enumerate" = none
  list : mg "list" = none
/-- isinstance(e, T), T a built-in type -/
def tIsi (K : PySem.W.Frag) (T : String) (te : TE) : TE := tCB (rIsi K) (tCons te (tCons (tC (.ty T)) tNil))
theorem isi_go {K : PySem.W.Frag} {T : String} {te : TE} {σ : L2.St} {H H1 : Hp} {v : V} {d : PyData} {b : Bool} {Q : VK} (h : ∀ R : VK, R v H1 → te σ H R) (hd : Dp K H1 v d) (k : PySem.W.kitOne K (.type (tyN d)) (.type T) = some b) (q : Q (.bl b) H1) : tIsi K T te σ H Q :=
  h _ ⟨v, .ty T, _, _, b, rfl, .ty T, dp_ty hd, k, q⟩
end Vk
namespace Vk
open PySem PySem.Spec PyProof.Rows L2
section
variable {P : Program} {w : World} {K : PySem.W.Frag} {mg : Str → Option Value} {base : Heap}
/-! ### _law_mix -/
def spMix : Sp := fun vs H Q _ => ∃ (n t : Int), vs = [.int n, .int t] ∧ 0 ≤ t ∧ t ≤ 10000000 ∧ ∀ r : Int, 0 ≤ r → r < 2147483648 → Q (.int r) H
theorem scMix : FnScope ["number", "turn", "value"] ["number", "turn"] (defScope sMix) := ⟨rfl, rfl, rfl, by decide +kernel, rfl, by decide +kernel, by decide +kernel⟩
theorem ok_mix (D : Df K mg "_law_mix" sMix ["number", "turn"]) : Cl P w K mg base CX0 1 "_law_mix" ["number", "turn"] spMix := by
  refine cl0 D scMix (fun vs H Q E h => ?_) (fun f cdv A outer s H vs Q E hr h => ?_)
  · obtain ⟨n, t, rfl, _⟩ := h
    rfl
  · obtain ⟨n, t, rfl, h0, h1, k⟩ := h
    refine ⟨_, pss_cons (ps_set (i := 2) scMix.nd rfl (Or.inl rfl) (pe_op op_mod (pe_op op_add (pe_op op_add (pe_op op_add (pe_op op_mod (pv 0) pe_int) (pe_op op_mul (pe_op op_mul pe_int (pv 1)) (pv 1))) (pe_op op_mul pe_int (pv 1))) pe_int) pe_int))
      (pss_cons (ps_set (i := 2) scMix.nd rfl (Or.inl rfl) (pe_op op_mod (pe_op op_mul (pe_op op_mod (pe_op op_mul (pv 2) (pv 2)) pe_int) (pv 2)) pe_int))
      (pss_one (ps_ret (pe_op op_fdiv (pe_op op_mod (pe_op op_add (pe_op op_mul (pv 2) pe_int) (pv 1)) pe_int) pe_int)))), ?_⟩
    refine ⟨_, rfl, _, _, rfl, rfl, (by show (0 : Int) < 2147483629; decide), _, rfl, _, _, rfl, rfl, .inl (by decide), _, rfl, _, _, rfl, rfl, .inr ⟨by omega, by omega⟩, _, _, rfl, rfl, _, rfl, _, _, rfl, rfl, .inl (by decide), _, _, rfl, rfl, _, _, rfl, rfl, _, _, rfl, rfl, (by show (0 : Int) < 2147483629; decide), ?_⟩
    generalize hv : (n % 2147483629 + 7919 * t * t + 104729 * t + 13) % 2147483629 = v
    have v0 : 0 ≤ v := by rw [← hv]; exact Int.emod_nonneg _ (by decide)
    have v1 : v < 2147483629 := by rw [← hv]; exact Int.emod_lt_of_pos _ (by decide)
    refine ⟨_, rfl, _, rfl, _, _, rfl, rfl, .inl ⟨by omega, by omega⟩, _, _, rfl, rfl, (by show (0 : Int) < 2147483587; decide), _, rfl, _, _, rfl, rfl, .inr ⟨by omega, by omega⟩, _, _, rfl, rfl, (by show (0 : Int) < 2147483563; decide), ?_⟩
    generalize hu : v * v % 2147483587 * v % 2147483563 = u
    have u0 : 0 ≤ u := by rw [← hu]; exact Int.emod_nonneg _ (by decide)
    have u1 : u < 2147483563 := by rw [← hu]; exact Int.emod_lt_of_pos _ (by decide)
    refine ⟨_, rfl, _, _, rfl, rfl, .inl ⟨by omega, by omega⟩, _, rfl, _, _, rfl, rfl, _, _, rfl, rfl, (by show (0 : Int) < 2147483399; decide), _, _, rfl, rfl, ⟨by decide, by decide⟩, ?_⟩
    exact k _ (by omega) (by omega)
/-! ### _law_store -/
def spStore (K : PySem.W.Frag) : Sp := fun vs H Q _ => ∃ (a : Addr) (ns : List Int), vs = [.ref a] ∧ SqL K H a (ns.map V.int) ∧ ns.length ≤ 63 ∧ ∀ (p sc : Addr) (H' : Hp), Same H H' → H p = none → Sto sc p 0 H' → Q (.ref p) H'
theorem scStore : FnScope ["script", "mixed", "cell"] ["script"] (defScope sStore) := ⟨rfl, rfl, rfl, by decide +kernel, rfl, by decide +kernel, by decide +kernel⟩
theorem map_int_get {ns : List Int} {i : Nat} {y : V} (h : (ns.map V.int)[i]? = some y) : ∃ z, ns[i]? = some z ∧ y = V.int z := by
  rw [List.getElem?_map] at h
  cases e : ns[i]? with
  | none => rw [e] at h; cases h
  | some z => rw [e] at h; exact ⟨z, rfl, (Option.some.inj h).symm⟩
theorem cut63 {ns : List Int} (h : ns.length ≤ 63) : cutV (ns.map V.int) none (some 63) = ns.map V.int := by
  have e1 : HT.sIx (ns.map V.int).length 0 none = 0 := rfl
  have e2 : HT.sIx (ns.map V.int).length (ns.map V.int).length (some 63) = min 63 (ns.map V.int).length := HT.sIx_nat _ _ 63
  unfold cutV
  rw [e1, e2, List.drop_zero]
  exact List.take_of_length_le (by rw [List.length_map]; omega)
theorem ok_store (D : Df K mg "_law_store" sStore ["script"]) (len : mg "len" = none) : Cl P w K mg base CX0 1 "_law_store" ["script"] (spStore K) := by
  refine cl0 D scStore (fun vs H Q E h => ?_) (fun f cdv A outer s H vs Q E hr h => ?_)
  · obtain ⟨a, ns, rfl, _⟩ := h
    rfl
  · obtain ⟨a, ns, rfl, hS, hl, k⟩ := h
    refine ⟨_, pss_cons (ps_set (i := 1) scStore.nd rfl (Or.inl rfl) (pe_callB call_len_seq (by rfl) len PySem.boot_len (pa_cons (pv 0) pa_nil)))
      (pss_cons (ps_for PassesOwn.never rfl (pi_list (pe_slice sl_list (pv 0) po_none (po_some pe_int))) (pg_name (i := 2) scStore.nd rfl (Or.inl rfl))
        (pss_one (ps_set (i := 1) scStore.nd rfl (Or.inl rfl) (pe_op op_mod (pe_op op_add (pe_op op_add (pe_op op_mul (pv 1) pe_int) (pe_op op_mod (pv 2) pe_int)) pe_int) pe_int))))
      (pss_one (ps_ret (pe_lst (pa_cons (pe_slice sl_list (pv 0) po_none (po_some pe_int)) (pa_cons pe_int (pa_cons pe_int (pa_cons (pv 1) (pa_cons pe_int pa_nil))))))))), ?_⟩
    refine ⟨_, rfl, a, _, rfl, .inl hS, ?_⟩
    refine ⟨_, rfl, _, rfl, a, _, rfl, hS, fun p hp => ⟨p, rfl, ⟨_, SqL.of upd_same⟩, ?_⟩⟩
    rw [cut63 hl]
    refine for_list (K := K) (a := p) (xs := ns.map V.int) (fun i σ H' => ∃ (m : Int) (v : Option V), σ = [some (.ref a), some (.int m), v] ∧ 0 ≤ m ∧ m < 2147483648 ∧ H' = upd H p (.lst (ns.map V.int)))
      ⟨_, none, rfl, Int.natCast_nonneg _, by rw [List.length_map]; omega, rfl⟩ (fun i σ H' _ ⟨m, v, _, _, _, e⟩ => by rw [e]; exact SqL.of upd_same) ?_ ?_
    · rintro i y σ H' hi ⟨m, v, rfl, m0, m1, rfl⟩
      obtain ⟨z, _, rfl⟩ := map_int_get hi
      refine ⟨_, rfl, _, _, rfl, rfl, .inl ⟨by omega, by omega⟩, _, rfl, _, _, rfl, rfl, (by show (0 : Int) < 1000000007; decide), _, _, rfl, rfl, _, _, rfl, rfl, _, _, rfl, rfl, (by show (0 : Int) < 2147483629; decide), ?_⟩
      refine ⟨_, _, rfl, Int.emod_nonneg _ (by decide), ?_, rfl⟩
      have q := Int.emod_lt_of_pos (m * 16807 + z % 1000000007 + 11) (show (0 : Int) < 2147483629 by decide)
      omega
    · rintro σ H' ⟨m, v, rfl, m0, m1, rfl⟩
      have s1 : Same H (upd H p (.lst (ns.map V.int))) := same_new hp
      refine ⟨_, rfl, _, rfl, a, _, rfl, s1.seq hS, fun q hq => ?_⟩
      rw [cut63 hl]
      have s2 : Same H (upd (upd H p (.lst (ns.map V.int))) q (.lst (ns.map V.int))) := s1.trans (same_new hq)
      refine ⟨_, rfl, (by show 5 ≤ sizeLine; decide), fun r hr' => ?_⟩
      have nq : q ≠ r := ne_of_none upd_same hr'
      refine k r q _ (s2.trans (same_new hr')) ((s2.trans (Same.refl _)).free hr') ?_
      exact Sto.put nq upd_same hl (by decide) (by decide) (by decide) (by decide)
end
end Vk
namespace Vk
open PySem PySem.Spec PyProof.Rows L2
section
variable {P : Program} {w : World} {K : PySem.W.Frag} {mg : Str → Option Value} {base : Heap}
def spPick : Sp := fun vs H Q _ => ∃ (a sc : Addr) (m n : Int), vs = [.ref a, .int m] ∧ 0 < m ∧ m < 1000000000 ∧ Sto sc a n H ∧ n ≤ 1000000 ∧
  ∀ (r : Int) (H' : Hp), 0 ≤ r → r < m → Sto sc a (n + 1) H' → Kept a H H' → Q (.int r) H'
theorem scPick : FnScope ["store", "count", "cell", "digit"] ["store", "count"] (defScope sPick) := ⟨rfl, rfl, rfl, by decide +kernel, rfl, by decide +kernel, by decide +kernel⟩
theorem ok_pick (D : Df K mg "_law_pick" sPick ["store", "count"]) (M : Cl P w K mg base CX0 1 "_law_mix" ["number", "turn"] spMix) (len : mg "len" = none) : Cl P w K mg base CX0 2 "_law_pick" ["store", "count"] spPick := by
  refine cl0 D scPick (fun vs H Q E h => ?_) (fun f cdv A outer s H vs Q E hr h => ?_)
  · obtain ⟨a, sc, m, n, rfl, _⟩ := h
    rfl
  · obtain ⟨a, sc, m, n, rfl, m0, m1, S, n1, k⟩ := h
    refine ⟨_, pss_cons (ps_asg (pe_op op_add (pe_ix ix_list (pv 0) pe_int (fun _ _ => rfl)) pe_int) (pg_sub (pv 0) pe_int set_list))
      (pss_cons (ps_if (PW.pt (pw_and (pt_cmpR op_eq (pe_ix ix_list (pv 0) pe_int (fun _ _ => rfl)) pe_int (nomark _)) (pw_and1 (pt_cmpR op_lt (pe_ix ix_list (pv 0) pe_int (fun _ _ => rfl)) (pe_callB call_len_seq (by rfl) len PySem.boot_len (pa_cons (pe_ix ix_list (pv 0) pe_int (fun _ _ => rfl)) pa_nil)) (nomark _)))))
        (pss_cons (ps_set (i := 2) scPick.nd rfl (Or.inl rfl) (pe_ix ix_list (pe_ix ix_list (pv 0) pe_int (fun _ _ => rfl)) (pe_ix ix_list (pv 0) pe_int (fun _ _ => rfl)) (fun _ _ => rfl)))
        (pss_cons (ps_asg (pe_op op_add (pe_ix ix_list (pv 0) pe_int (fun _ _ => rfl)) pe_int) (pg_sub (pv 0) pe_int set_list))
        (pss_cons (ps_if (pt_cmpR op_lt (pv 2) (pe_op op_pow pe_int pe_int) (nomark _))
          (pss_one (ps_ret (pe_op op_mod (pc M hr (by decide) (pa_cons (pv 2) (pa_cons (pe_ix ix_list (pv 0) pe_int (fun _ _ => rfl)) pa_nil))) (pv 1)))) pss_nil)
        (pss_one (ps_asg (pv 2) (pg_sub (pv 0) pe_int set_list)))))) pss_nil)
      (pss_cons (ps_if (pt_cmpR op_gt (pe_ix ix_list (pv 0) pe_int (fun _ _ => rfl)) pe_int (nomark _))
        (pss_cons (ps_set (i := 3) scPick.nd rfl (Or.inl rfl) (pe_op op_mod (pe_ix ix_list (pv 0) pe_int (fun _ _ => rfl)) (pv 1)))
        (pss_cons (ps_asg (pe_op op_fdiv (pe_ix ix_list (pv 0) pe_int (fun _ _ => rfl)) (pv 1)) (pg_sub (pv 0) pe_int set_list))
        (pss_one (ps_ret (pv 3))))) pss_nil)
      (pss_one (ps_ret (pe_op op_mod (pc M hr (by decide) (pa_cons (pe_ix ix_list (pv 0) pe_int (fun _ _ => rfl)) (pa_cons (pe_ix ix_list (pv 0) pe_int (fun _ _ => rfl)) pa_nil))) (pv 1)))))), ?_⟩
    obtain ⟨cs, i, dg, mx, c, hH, ns, hq, hl, i0, d0, c0, cn⟩ := S.ex
    have fill : ∀ (G : Hp) (i' dg' c' : Int), Off a G = Off a H → 0 ≤ i' → 0 ≤ dg' → 0 ≤ c' → c' ≤ n + 1 → G a = some (.lst [.ref sc, .int i', .int dg', .int mx, .int c']) → Sto sc a (n + 1) G ∧ Kept a H G := fun G i' dg' c' e h1 h2 h3 h4 h5 =>
      ⟨⟨cs, i', dg', mx, c', h5, ns, (off_sub a G).at (by rw [e, off_ne ns]; exact hq), hl, h1, h2, h3, h4⟩, by unfold Kept; rw [e]; exact Same.refl _⟩
    -- store[4] = store[4] + 1
    refine ⟨_, rfl, a, _, _, _, rfl, rfl, SqL.of hH, rfl, _, _, rfl, rfl, _, rfl, a, _, _, _, rfl, rfl, hH, rfl, ?_⟩
    -- the mix at the end
    have fin : ∀ (G : Hp) (i' dg' x r : Int), Off a G = Off a H → 0 ≤ i' → 0 ≤ dg' → G a = some (.lst [.ref sc, .int i', .int dg', .int mx, .int (c + 1)]) → Q (.int (r % m)) G := fun G i' dg' x r e h1 h2 h3 => by
      obtain ⟨s1, s2⟩ := fill G i' dg' (c + 1) e h1 h2 (by omega) (by omega) h3
      exact k _ G (Int.emod_nonneg _ (by omega)) (Int.emod_lt_of_pos _ m0) s1 s2
    have fin2 : ∀ (G : Hp) (i' dg' r : Int), Off a G = Off a H → 0 ≤ i' → 0 ≤ dg' → 0 ≤ r → r < m → G a = some (.lst [.ref sc, .int i', .int dg', .int mx, .int (c + 1)]) → Q (.int r) G := fun G i' dg' r e h1 h2 q1 q2 h3 => by
      obtain ⟨s1, s2⟩ := fill G i' dg' (c + 1) e h1 h2 (by omega) (by omega) h3
      exact k _ G q1 q2 s1 s2
    have hqG : ∀ G : Hp, Off a G = Off a H → SqL K G sc (cs.map V.int) := fun G e => SqL.of ((off_sub a G).at (by rw [e, off_ne ns]; exact hq))
    have oG : ∀ o, Off a (upd H a o) = Off a H := fun o => off_upd
    have oG2 : ∀ o u, Off a (upd (upd H a o) a u) = Off a H := fun o u => by rw [off_upd, off_upd]
    have oG3 : ∀ o u v, Off a (upd (upd (upd H a o) a u) a v) = Off a H := fun o u v => by rw [off_upd, off_upd, off_upd]
    refine ⟨_, rfl, a, _, _, _, rfl, rfl, SqL.of upd_same, rfl, rfl, _, rfl, ?_⟩
    refine ite2 (fun hd => ?_) (fun hd => ?_)
    · have hd0 : dg = 0 := by
        have z := of_decide_eq_true hd
        exact V.int.inj z
      subst hd0
      refine ⟨_, rfl, a, _, _, _, rfl, rfl, SqL.of upd_same, rfl, _, rfl, a, _, _, _, rfl, rfl, SqL.of upd_same, rfl, sc, _, rfl, .inl (hqG _ (oG _)), _, _, rfl, rfl, _, rfl, ?_⟩
      refine ite2 (fun hi => ?_) (fun hi => ?_)
      · have hi0 : i < (cs.map V.int).length := of_decide_eq_true hi
        have hj : i.toNat < cs.length := by rw [List.length_map] at hi0; omega
        have hc : (cs.map V.int)[i.toNat]? = some (V.int cs[i.toNat]) := by rw [List.getElem?_map, List.getElem?_eq_getElem hj]; rfl
        have ha : atI (cs.map V.int) i = some (V.int cs[i.toNat]) := by
          have z := atI_nat hc
          rw [Int.toNat_of_nonneg i0] at z
          exact z
        -- cell = store[0][store[1]]; store[1] = store[1] + 1
        refine ⟨_, rfl, a, _, _, _, rfl, rfl, SqL.of upd_same, rfl, _, rfl, a, _, _, _, rfl, rfl, SqL.of upd_same, rfl, sc, _, _, _, rfl, rfl, hqG _ (oG _), ha, ?_⟩
        refine ⟨_, rfl, a, _, _, _, rfl, rfl, SqL.of upd_same, rfl, _, _, rfl, rfl, _, rfl, a, _, _, _, rfl, rfl, upd_same, rfl, ?_⟩
        -- if cell < 10 ** 18
        refine ⟨_, rfl, _, _, rfl, rfl, ⟨by decide, by decide, by decide⟩, _, _, rfl, rfl, _, rfl, ?_⟩
        refine ite2 (fun hx => ?_) (fun hx => ?_)
        · refine ⟨_, rfl, _, rfl, a, _, _, _, rfl, rfl, SqL.of upd_same, rfl, _, _, rfl, by omega, by omega, fun r r0 r1 => ?_⟩
          exact ⟨_, rfl, _, _, rfl, rfl, m0, fin _ (i + 1) 0 0 r (oG2 _ _) (by omega) (by decide) upd_same⟩
        · have hx0 : ¬ cs[i.toNat] < 10 ^ 18 := fun z => hx (decide_eq_true z)
          -- store[2] = cell
          refine ⟨_, rfl, _, rfl, a, _, _, _, rfl, rfl, upd_same, rfl, ?_⟩
          refine ⟨_, rfl, a, _, _, _, rfl, rfl, SqL.of upd_same, rfl, _, _, rfl, rfl, _, rfl, ?_⟩
          refine ite2 (fun _ => ?_) (fun z => absurd (decide_eq_true (show (0 : Int) < cs[i.toNat] by omega)) z)
          refine ⟨_, rfl, a, _, _, _, rfl, rfl, SqL.of upd_same, rfl, _, rfl, _, _, rfl, rfl, m0, ?_⟩
          refine ⟨_, rfl, a, _, _, _, rfl, rfl, SqL.of upd_same, rfl, _, rfl, _, _, rfl, rfl, ⟨m0, by omega⟩, _, rfl, a, _, _, _, rfl, rfl, upd_same, rfl, ?_⟩
          refine ⟨_, rfl, ?_⟩
          exact fin2 _ (i + 1) (cs[i.toNat] / m) _ (by rw [off_upd, off_upd, off_upd, off_upd]) (by omega) (Int.ediv_nonneg (by omega) (by omega)) (Int.emod_nonneg _ (by omega)) (Int.emod_lt_of_pos _ m0) upd_same
      · refine ⟨_, rfl, a, _, _, _, rfl, rfl, SqL.of upd_same, rfl, _, _, rfl, rfl, _, rfl, ?_⟩
        refine ite2 (fun z => absurd (of_decide_eq_true z) (by decide)) (fun _ => ?_)
        refine ⟨_, rfl, a, _, _, _, rfl, rfl, SqL.of upd_same, rfl, _, rfl, a, _, _, _, rfl, rfl, SqL.of upd_same, rfl, _, _, rfl, by omega, by omega, fun r r0 r1 => ?_⟩
        exact ⟨_, rfl, _, _, rfl, rfl, m0, fin _ i 0 0 r (oG _) i0 (by decide) upd_same⟩
    · have hd0 : ¬ dg = 0 := fun z => hd (decide_eq_true (by rw [z]))
      refine iteF ?_
      refine ⟨_, rfl, a, _, _, _, rfl, rfl, SqL.of upd_same, rfl, _, _, rfl, rfl, _, rfl, ?_⟩
      refine ite2 (fun _ => ?_) (fun z => absurd (decide_eq_true (show (0 : Int) < dg by omega)) z)
      refine ⟨_, rfl, a, _, _, _, rfl, rfl, SqL.of upd_same, rfl, _, rfl, _, _, rfl, rfl, m0, ?_⟩
      refine ⟨_, rfl, a, _, _, _, rfl, rfl, SqL.of upd_same, rfl, _, rfl, _, _, rfl, rfl, ⟨m0, by omega⟩, _, rfl, a, _, _, _, rfl, rfl, upd_same, rfl, ?_⟩
      refine ⟨_, rfl, ?_⟩
      exact fin2 _ i (dg / m) _ (by rw [off_upd, off_upd]) i0 (Int.ediv_nonneg (by omega) (by omega)) (Int.emod_nonneg _ (by omega)) (Int.emod_lt_of_pos _ m0) upd_same
end
end Vk
/-! enumerate over a tuple: the pairs are new tuples -/
namespace PySem
set_option maxHeartbeats 4000000 in
theorem vx_enumNew {v : Value} {cell : Obj} {Hh : Heap → Prop} (B : Begins v cell Hh) :
    Meets (Builtin.«enumerate.__new__» ⟨[.type "enumerate", v], []⟩) (fun _ R s => Hh s.heap ∧
      R (.ok (.ret (.ref (s.heap.push cell).objs.size)))
        { s with heap := (s.heap.push cell).push { cls := .type "enumerate", data := .fields #[.none, .bool false, .ref s.heap.objs.size, rawInt 0, .none, .none] } }) :=
  .of_wp fun prog w A R s h => by
    obtain ⟨hp, gs, dr, tk, os⟩ := s
    obtain ⟨hbeg, h⟩ := h
    have subE := sub_enumerate
    have itOf : ∀ {A2 : Around} {E2 : Value → Shared → Prop} {Q2 : Value → Shared → Prop}, Q2 (.ref hp.objs.size) ⟨hp.push cell, gs, dr, tk, os⟩ → wpAny (model prog w) A2 (pyIter v) Q2 E2 ⟨hp, gs, dr, tk, os⟩ :=
      fun q => B.iter prog w _ _ ⟨hp, gs, dr, tk, os⟩ _ hbeg q
    wp_walk using itOf
    refine wpAny_stack_any fun st => wpAny_pure ?_
    split
    · rename_i cc _ _ _ _ _
      cases (cc == Value.type "enumerate") <;> (wp_walk using itOf; exact ⟨_, rfl, h⟩)
    · wp_walk using itOf
      exact ⟨_, rfl, h⟩
section
variable {prog : Program} {w : World} {A : Around} {E : Value → Shared → Prop} {s : Shared}
theorem vx_callEnum {v : Value} {cell : Obj} {Hh : Heap → Prop} {Q : Value → Shared → Prop} (B : Begins v cell Hh) (hbeg : Hh s.heap)
    (h : ∀ h', IsEnum h' (s.heap.objs.size + 1) s.heap.objs.size 0 .none → h'.get? s.heap.objs.size = some cell → (∀ b o, s.heap.get? b = some o → h'.get? b = some o) →
      Q (.ref (s.heap.objs.size + 1)) { s with heap := h' }) :
    wpAny (model prog w) A (call (.type "enumerate") [v]) Q E s := by
  refine callType_new F.called_enumerate (by decide) (F.typeCall_enumerate_1 _) (F.newCall_enumerate_1 _) (fun obj => F.args_object_init_2 obj _) F.entry_enumerate_new
    (vx_enumNew B) ⟨hbeg, ?_⟩
  have sz : (s.heap.push cell).objs.size = s.heap.objs.size + 1 := Heap.size_push ..
  show _ ∧ _
  rw [sz]
  have en : IsEnum ((s.heap.push cell).push { cls := .type "enumerate", data := .fields #[.none, .bool false, .ref s.heap.objs.size, rawInt 0, .none, .none] }) (s.heap.objs.size + 1) s.heap.objs.size 0 .none := by
    have got := Heap.get?_push_size (s.heap.push cell) (o := { cls := .type "enumerate", data := .fields #[.none, .bool false, .ref s.heap.objs.size, rawInt 0, .none, .none] }) rfl
    rw [sz] at got
    exact got
  exact ⟨⟨_, en, rfl⟩, h _ en (Heap.get?_push_of_some _ (Heap.get?_push_size _ B.free)) fun b o x => Heap.get?_push_of_some _ (Heap.get?_push_of_some _ x)⟩
end
end PySem
namespace L2
open PySem PySem.Spec PyProof.Rows
/-- what enumerate gives over the tuple at a: its items in new pairs -/
def IteT (K : PySem.W.Frag) (a : Addr) : It :=
  ⟨fun i H => ∃ (ys : List V) (y : V), SqT K H a ys ∧ ys[i]? = some y, fun i H v H' => ∃ T y, v = .ref T ∧ H T = none ∧ H' = upd H T (.tup [.int (i : Nat), y]) ∧ ∀ ys, SqT K H a ys → ys[i]? = some y,
    fun i H => ∃ ys : List V, SqT K H a ys ∧ ys.length = i⟩
theorem vx_turn {P : Program} {w : World} {K : PySem.W.Frag} {elts : List Expr} {kk : Nat} {tpos : Pos} (a e it : Addr) :
    Turn P w K (.Tuple elts kk tpos) (IteT K a) [e, it] e (fun i h => (∃ old, IsEnum h e it ((i : Nat) : Int) old) ∧ h.IsTupleIter it a i ∧ e ≠ it ∧ a ≠ it ∧ e ≠ a) where
  mem := List.mem_cons_self
  obj := fun i h st b hb => by
    obtain ⟨⟨old, en⟩, ⟨o, ho, hc, hd⟩, _⟩ := st
    have two : b = e ∨ b = it := by simpa using hb
    rcases two with z | z
    · subst z
      exact ⟨_, en, fun v q => nomatch q⟩
    · subst z
      exact ⟨o, ho, fun v q => by rw [hd] at q; cases q⟩
  keep := fun i h h' st k => by
    obtain ⟨⟨old, en⟩, hi, r⟩ := st
    exact ⟨⟨old, k e (by simp) _ en⟩, hi.at fun o q => k it (by simp) o q, r⟩
  item := by
    intro X hP hw hK hc i pins s σ H E I hf st hg
    subst hP hw hK
    obtain ⟨⟨old, en⟩, hit, nei, nai, nea⟩ := st
    obtain ⟨ys, y, hq, hy⟩ := hg
    obtain ⟨its, rv, p, _⟩ := I.tuple hq
    obtain ⟨u, hu, ru⟩ := rv.get hy
    have le : e < s.heap.objs.size := Heap.lt_size en
    have li : it < s.heap.objs.size := by obtain ⟨_, q, _⟩ := hit; exact Heap.lt_size q
    have hin : X.A.in1.handled = none := I.ok.hd hc
    have ilt : i < its.toArray.size := by
      have z := (List.getElem?_eq_some_iff.mp hu).1
      rw [List.size_toArray]
      exact z
    refine wpAny_pyNext_enum_itemD (Draws.tuple hin it a nai its.toArray) en ⟨hit, p⟩ ilt nei (by simp [nei, nea]) fun x h2 tk hx eo st2 hT hsz hk => ?_
    have ex : x = u := by
      have z : its.toArray[i]? = some x := hx
      rw [List.getElem?_toArray, hu] at z
      exact (Option.some.inj z).symm
    subst ex
    refine ⟨_, rfl, wpAny_letOwnedTupleGo_enum (s := { s with heap := h2, toks := tk + 1 }) eo fun h3 he3 sb => ?_⟩
    have hT3 : h3.get? s.heap.objs.size = some { cls := .type "tuple", data := .seq #[.int i tk, x] } := (sb.2 _ (Nat.ne_of_gt le)).trans hT
    have new : ObjOk X.prog X.w (upd H s.heap.objs.size (.tup [.int (i : Nat), y])) h3 s.heap.objs.size (.tup [.int (i : Nat), y]) :=
      ⟨(by show 2 ≤ sizeLine; decide), [.int i tk, x], .cons ⟨_, rfl⟩ (.cons ru .nil), ⟨_, hT3, rfl, _, rfl⟩⟩
    have J : Inv X pins σ (upd H s.heap.objs.size (.tup [.int (i : Nat), y])) { s with heap := h3, toks := tk + 1 } :=
      I.turnedNew (ch := [e, it]) (fun b ob hb q => by
        have n1 : b ≠ e := fun z => hb (by simp [z])
        have n2 : b ≠ it := fun z => hb (by simp [z])
        exact (sb.2 b n1).trans (hk b ob n1 n2 q)) hf (Nat.le_refl _) new
    refine ⟨.ref s.heap.objs.size, _, J, rfl, ⟨_, y, rfl, I.hok.fresh (Nat.le_refl _), rfl, fun zs hz => by rw [I.tuple_inj hz hq]; exact hy⟩, ⟨⟨x, ?_⟩, st2.1.at fun o q => (sb.2 it (Ne.symm nei)).trans q, nei, nai, nea⟩, fun b hb => ?_⟩
    · have en2 : ((i + 1 : Nat) : Int) = (i : Int) + 1 := by omega
      rw [en2]
      exact he3
    · have lb : b < s.heap.objs.size := by
        have two : b = e ∨ b = it := by simpa using hb
        rcases two with z | z
        · rw [z]; exact le
        · rw [z]; exact li
      rw [upd_ne (Nat.ne_of_lt lb)]
      exact (hf b hb).1
  done := by
    intro X hP hw hK hc i pins s σ H E I hf st hg
    subst hP hw hK
    obtain ⟨⟨old, en⟩, hit, nei, nai, nea⟩ := st
    obtain ⟨ys, hq, hy⟩ := hg
    obtain ⟨its, rv, p, _⟩ := I.tuple hq
    obtain ⟨f0, f1, f2, f3, f4, f5⟩ := hf it (by simp)
    have hl := rv.length
    have hi : i = its.toArray.size := by rw [List.size_toArray]; omega
    subst hi
    have hin : X.A.in1.handled = none := I.ok.hd hc
    exact wpAny_pyNext_enum_endD (Draws.tuple hin it a nai its.toArray) en ⟨hit, p⟩ fun h2 eb => ⟨rfl, I.turned (t' := s.toks) (fun b o hb q => eb b o hb q) f0 f1 f3 f4 f5⟩
  self := fun A i s Q E st h => by
    obtain ⟨⟨_, en⟩, _⟩ := st
    exact wpAny_pyIter_enum en h
def iEnumT (K : PySem.W.Frag) (ta : TA) : TI := fun σ H R => ta σ H fun vs H1 => ∃ a ys, vs = [.ref a] ∧ SqT K H1 a ys ∧ R (IteT K a) H1
theorem pi_enumT {X : Cx} {e : Expr} {ta : TA} {p pos tpos : Pos} {elts : List Expr} {kk : Nat} (hm : X.mg "enumerate" = none) (ha : PA X [e] ta) (hg : Gl X "enumerate" := by rfl) (hs : starEach [e] X.env = [(false, eval e X.env)] := by rfl) :
    PI X (.Tuple elts kk tpos) (.Call (.Name "enumerate" p) [e] [] pos) (iEnumT X.K ta) := by
  refine ⟨fun pins s σ H R I h => ?_⟩
  refine Call_ (ld_blt I hg hm boot_enumerate (PyProof.Rows.callWith_type1 (thn (ha.run pos pins s σ H _ I h) fun us s1 ⟨vs, H1, I1, r1, q1⟩ => ?_) hs rfl))
  obtain ⟨a, ys, ex, hq, q⟩ := q1
  subst ex
  cases r1 with
  | cons r rr =>
    cases rr
    cases r
    obtain ⟨its, rv, p2, _⟩ := I1.tuple hq
    have la : a < s1.heap.objs.size := by obtain ⟨_, z, _⟩ := p2; exact Heap.lt_size z
    refine vx_callEnum (begins_tuple a its.toArray) p2 fun h2 he hit hk => wpAny_pyIter_enum he ?_
    have I2 : Inv X pins σ H1 { s1 with heap := h2 } := I1.kept (t' := s1.toks) hk
    refine ⟨s1.heap.objs.size + 1, [s1.heap.objs.size + 1, s1.heap.objs.size], _, _, H1, rfl, I2, vx_turn a (s1.heap.objs.size + 1) s1.heap.objs.size,
      ⟨⟨.none, he⟩, ⟨_, hit, rfl, rfl⟩, Nat.succ_ne_self _, Nat.ne_of_lt la, Nat.ne_of_gt (Nat.lt_succ_of_lt la)⟩, fun b hb => ?_, q⟩
    have two : b = s1.heap.objs.size + 1 ∨ b = s1.heap.objs.size := by simpa using hb
    have hle : s1.heap.objs.size ≤ b := by
      rcases two with z | z
      · rw [z]; exact Nat.le_succ _
      · rw [z]; exact Nat.le_refl _
    exact I1.fpOk hle (I1.hok.fresh hle)
/-- turn by turn, the tuple standing still -/
theorem walk_enumT {K : PySem.W.Frag} {a : Addr} {xs : List V} : Walk (IteT K a) xs.length (fun H => SqT K H a xs) (YPair (fun i => some (.int (i : Nat))) (fun i => xs[i]?)) := by
  refine ⟨fun i _ hi q => ⟨xs, xs[i], q, by simp [hi]⟩, fun _ q => ⟨xs, q, rfl⟩, fun i H v H' _ q y => ?_⟩
  obtain ⟨T, x, h1, h2, h3, h4⟩ := y
  exact ⟨T, .int (i : Nat), x, h1, h2, h3, rfl, h4 xs q⟩
end L2
/-! an exception that its except suite gives to another name: it is tracked from there on -/
namespace Vk
open PySem PySem.Spec PyProof.Rows L2
/-- at a: an exception of the class cls, its dict d -/
def Xco (a : Addr) (cls : Value) (d : Option Addr) : HO := .ext fun h => ∃ (oe : Obj) (vs : Array Value), h.get? a = some oe ∧ Zc cls d oe ∧ oe.data = .fields vs
theorem xco_ok {P : Program} {w : World} {H : Hp} {h : Heap} {a : Addr} {cls : Value} {d : Option Addr} {oe : Obj} {vs : Array Value} (e : h.get? a = some oe) (z : Zc cls d oe) (f : oe.data = .fields vs) : ObjOk P w H h a (Xco a cls d) :=
  ⟨⟨oe, vs, e, z, f⟩, ⟨oe, e⟩, fun _ _ ⟨o, v, q, r⟩ k => ⟨o, v, k o q, r⟩⟩
theorem xco_at {P : Program} {w : World} {H : Hp} {h : Heap} {a : Addr} {cls : Value} {d : Option Addr} (hok : HOk P w H h) (e : H a = some (Xco a cls d)) : ∃ (oe : Obj) (vs : Array Value), h.get? a = some oe ∧ Zc cls d oe ∧ oe.data = .fields vs := by
  have x : ObjOk P w H h a (.ext fun h => ∃ (oe : Obj) (vs : Array Value), h.get? a = some oe ∧ Zc cls d oe ∧ oe.data = .fields vs) := hok a _ e
  exact x.1
section
variable {X : Cx} {pins : List (Addr × Obj)} {σ : L2.St} {H : Hp} {s : Shared}
theorem inv_track {a : Addr} {o : HO} (I : Inv X pins σ H s) (hn : H a = none) (n0 : ∀ ob, X.s_0.heap.get? a = some ob → False) (nL : a ≠ X.env.locals) (nC : ∀ x c, X.env.cells.lookup x = some c → c ≠ a) (nP : ∀ p ∈ X.pn ++ pins, p.1 ≠ a)
    (new : ObjOk X.prog X.w (upd H a o) s.heap a o) : Inv X pins σ (upd H a o) s := by
  have ne : ∀ {b : Addr} {u : HO}, H b = some u → b ≠ a := fun q => ne_of_none q hn
  have b1 : Un X.fs X.ex X.H_0 (upd H a o) X.s_0.heap s.heap := {
      keep := I.base.keep
      slot := I.base.slot
      free := fun b u q n x => by
        have nb : b ≠ a := fun z => by
          rw [z] at q
          exact n0 u q
        rw [upd_ne nb]
        exact I.base.free b u q n x
      there := I.base.there
      tups := fun b xs q => by
        have z := I.base.tups b xs q
        rw [upd_ne (ne z)]
        exact z
      frzs := fun b u xs q => by
        have z := I.base.frzs b u xs q
        rw [upd_ne (ne z)]
        exact z
      tbls := fun b ps q => by
        obtain ⟨m, z⟩ := I.base.tbls b ps q
        exact ⟨m, by rw [upd_ne (ne z)]; exact z⟩ }
  refine ⟨I.ok, I.os, I.bare, b1, I.loc, I.cell, ?_, ?_, ?_, ?_, I.len⟩
  · rw [upd_ne nL.symm]
    exact I.free
  · intro x c q
    rw [upd_ne (nC x c q)]
    exact I.freeC x c q
  · intro p hp
    obtain ⟨h1, h2, h3⟩ := I.pin p hp
    exact ⟨h1, by rw [upd_ne (nP p hp)]; exact h2, h3⟩
  · intro b u q
    by_cases hb : b = a
    · subst hb
      rw [upd_same] at q
      cases q
      exact new
    · rw [upd_ne hb] at q
      refine (I.hok b u q).stay (fun c v _ z => z) (fun c z => ?_) (fun c xs z => ?_)
      · rw [upd_ne (ne z)]
        exact z
      · rw [upd_ne (ne z)]
        exact z
end
/-- what «except C as n: suite» wishes where the suite keeps the exception -/
def wKeep (K : PySem.W.Frag) (c : Value) (i : Nat) (ts : Addr → Value → Option Addr → TS) (D : Ends) : WX := fun cls d σ H =>
  PySem.W.exmOne K cls c = some true ∧ ∀ a, H a = none → ts a cls d { nx := fun σ' H' => H' a = none → D.nx (σ'.set i none) (upd H' a (Xco a cls d)), rt := fun _ _ => False } (σ.set i (some (.ref a))) H
section
variable {X : Cx} {x n : Str} {c : Value} {i : Nat} {body more : List Stmt} {b₀ : Stmt} {np pos pos' : Pos} {tb : WX → TS} {ts : Addr → Value → Option Addr → TS}
theorem ps_try_keep (hs : X.stack = X.env :: X.outer) (hf : X.env.frame = some X.env.locals) (hex : X.ex = []) (hN : X.N.Nodup) (hi : X.N[i]? = some n) (hln : X.env.kindOf n = some .local) (hg : Gl X x) (hm : X.mg x = some c)
    (hdb : (x == ("__debug__" : Str)) = false)
    (hb : ∀ (W : WX) (pn : List (Addr × Obj)) (xe : Value → Shared → Prop), Takes (X.tr pn xe) W → PassesOwn (model X.prog X.w) X.A X.env xe → PSs (X.tr pn xe) body (tb W))
    (hsu : ∀ (a : Addr) (oe : Obj) (cls : Value) (d : Option Addr) (pn : List (Addr × Obj)), Zc cls d oe → (∃ vs, oe.data = .fields vs) → PSs (X.suite a ((a, oe) :: pn)) (b₀ :: more) (ts a cls d)) :
    PS X (.Try body [.ExceptHandler (some (.Name x np)) (some n) (b₀ :: more) pos'] [] [] pos) (fun D σ H => tb (wKeep X.K c i ts D) D σ H) := by
  refine ⟨fun pins s σ H D I h => ?_⟩
  have ok := I.ok
  have frames : X.A.frames = some (X.env :: X.outer) := by rw [ok.frames, hs]
  refine wpAny_Try_except (wpAny_mono ((hb (wKeep X.K c i ts D) (X.pn ++ pins) _ (fun u s2 air => ?_) PassesOwn.looking).run [] s σ H D (I.toTry _) h) (fun f s2 sp => ?_) (fun _ _ z => z))
  · obtain ⟨a, B, sI, pins2, σ2, H2, cls, d, rfl, J2, ground, up, sky, na, os, ag, match1, suite⟩ := air
    have J : Inv X pins σ2 H2 sI := J2.ofTry ok
    have air2 : Sky B (X.env :: X.outer) a (Zc cls d) X.env.locals s2.heap := by rw [← hs]; exact sky
    -- a stands in no frame, and is new
    refine Sky.land Zc.steady frames hf air2 fun h3 fly3 up3 => ?_
    have K3 : Inv X pins σ2 H2 { s2 with heap := h3 } := J.landed ground fly3.1 (up.trans up3) os ag
    obtain ⟨o3, v3, get3, z3, dat3⟩ := fly3.there
    have outFr : a ∉ frs (X.env :: X.outer) := fun hm2 => by
      obtain ⟨_, o4, get4, nf⟩ := fly3.2.2.1.mem hm2
      rw [get3] at get4
      cases get4
      exact nf _ dat3
    have noL : a ≠ X.env.locals := fun z => outFr (List.mem_filterMap.mpr ⟨X.env, List.mem_cons_self, by rw [hf, z]⟩)
    have noF : a ∉ X.fs := fun hm2 => by
      obtain ⟨e, he, q⟩ := List.mem_filterMap.mp hm2
      exact outFr (List.mem_filterMap.mpr ⟨e, List.mem_cons_of_mem _ he, q⟩)
    have outI : ∀ ob, sI.heap.get? a = some ob → False := fun ob q => by
      have z := ground a ob q (by rw [show (X.tr (X.pn ++ pins) _).stack = X.stack from rfl, hs]; exact outFr)
      rw [fly3.2.1] at z
      cases z
    have out0 : ∀ ob, X.s_0.heap.get? a = some ob → False := fun ob q => by
      obtain ⟨o5, z⟩ := J.base.there a ob q (by rw [hex]; exact fun y => nomatch y)
      exact outI _ z
    have noC : ∀ y cc, X.env.cells.lookup y = some cc → cc ≠ a := fun y cc q z => by
      obtain ⟨v, o6, get6, _⟩ := J.cell y cc q
      rw [z] at get6
      exact outI _ get6
    have noP : ∀ p ∈ X.pn ++ pins, p.1 ≠ a := fun p hp z => by
      have q := (J.pin p hp).1
      rw [z] at q
      exact outI _ q
    refine wpAny_handleBy_cons (codeAny_handlers_test ?_) (by intro q; cases q)
    have isC : PySem.W.Looks (model X.prog X.w) h3 (typeOf (.ref a)) cls := fun A2 Q2 E2 s4 kk q => wpAny_typeOf_ref (kk _ _ get3) (by rw [z3.1]; exact q)
    refine ld_glob (X := X.suite a ((a, o3) :: (X.pn ++ pins))) (K3.suite get3 dat3 na noL noF) hg hm ?_ hdb
    refine (PySem.W.exm_one (M := model X.prog X.w) K3.kIn isC match1).here (codeAny_handlers_suite_as ?_)
    refine HandSPX.lands_againZ fly3 fun h4 fly4 up4 => ?_
    have K4 : Inv X pins σ2 H2 { s2 with heap := h4 } := J.landed ground fly4.1 ((up.trans up3).trans up4) os ag
    obtain ⟨o4, v4, get4, z4, dat4⟩ := fly4.there
    refine store_ok (X := X.suite a ((a, o4) :: (X.pn ++ pins))) (v := .ref a) (K4.suite get4 dat4 na noL noF) hN hi (.inl hln) rfl (fun s5 S5 => ?_) (.inr hln)
    refine wpAny_mono ((hsu a o4 cls d (X.pn ++ pins) z4 ⟨_, dat4⟩).run [] s5 _ H2 _ S5 (suite a na)) (fun f s6 sp => ?_) (fun _ _ z => False.elim z)
    cases f with
    | next =>
      obtain ⟨σ6, H6, S6, q6⟩ := sp
      obtain ⟨get6, n6, _⟩ := S6.pin (a, o4) (List.mem_append_left _ List.mem_cons_self)
      have T6 : Inv X pins σ6 (upd H6 a (Xco a cls d)) s6 := inv_track (S6.unsuite ok) n6 out0 noL noC noP (xco_ok get6 z4 dat4)
      exact gone_ok T6 hN hi hln fun s7 T7 => ⟨_, _, T7, q6 n6⟩
    | brk =>
      obtain ⟨_, _, _, z⟩ := sp
      exact False.elim z
    | cont =>
      obtain ⟨_, _, _, z⟩ := sp
      exact False.elim z
    | ret u =>
      obtain ⟨_, _, _, _, _, z⟩ := sp
      exact False.elim z
  · cases f with
    | next =>
      obtain ⟨σ2, H2, J, q⟩ := sp
      exact wpAny_execs_nil ⟨σ2, H2, J.ofTry ok, q⟩
    | brk =>
      obtain ⟨σ2, H2, J, q⟩ := sp
      exact ⟨σ2, H2, J.ofTry ok, q⟩
    | cont =>
      obtain ⟨σ2, H2, J, q⟩ := sp
      exact ⟨σ2, H2, J.ofTry ok, q⟩
    | ret u =>
      obtain ⟨v, σ2, H2, J, r, q⟩ := sp
      exact ⟨v, σ2, H2, J.ofTry ok, r, q⟩
end
/-! ### what is asked of it later -/
theorem xco_inst {X : Cx} {pins : List (Addr × Obj)} {σ : L2.St} {H : Hp} {s : Shared} {a C : Addr} {d : Option Addr} (I : Inv X pins σ H s) (e : H a = some (Xco a (.ref C) d)) (hd : ∀ dd, d = some dd → ∃ fs, H dd = some (.xd fs)) :
    ∃ oe od, PySem.W.InstAt s.heap a oe C od := by
  obtain ⟨⟨oc, odd, dat, sl⟩, vs, get, ⟨z1, z2⟩, f⟩ := xco_at I.hok e
  dsimp only at z1 z2 f
  subst z1 z2 f
  cases odd with
  | none => exact ⟨_, none, get, rfl, rfl, trivial⟩
  | some dd =>
    obtain ⟨fs, hx⟩ := hd dd rfl
    have ok : ObjOk X.prog X.w H s.heap dd (.xd fs) := I.hok dd _ hx
    obtain ⟨mA, ⟨o2, _, _, get2, _⟩, _⟩ := ok
    exact ⟨_, some o2, get, rfl, rfl, get2⟩
/-- isinstance(e, c) of such an exception -/
def rIsX (K : PySem.W.Frag) : List V → Hp → VK → Prop := fun xs H Q => ∃ (a C : Addr) (d : Option Addr) (c : V) (u : Value) (b : Bool), xs = [.ref a, c] ∧ H a = some (Xco a (.ref C) d) ∧ (∀ dd, d = some dd → ∃ fs, H dd = some (.xd fs)) ∧
  ExcC K C ∧ ClsV c u ∧ PySem.W.kitOne K (.ref C) u = some b ∧ Q (.bl b) H
theorem call_isX {X : Cx} : CallR X (.builtin "isinstance") (rIsX X.K) := by
  intro pins s σ H xs us Q I r h
  obtain ⟨a, C, d, c, u, b, rfl, e, hd, T, k, hk, q⟩ := h
  obtain ⟨u1, u2, rfl, r1, r2⟩ := vals2 r
  cases r1
  have e2 := k.eq r2
  subst e2
  obtain ⟨oe, od, inst⟩ := xco_inst I e hd
  have cl : (PySem.W.clsIn X.K C).isSome = true := by
    obtain ⟨cd, hc, _⟩ := PySem.W.any_some T.hd
    rw [hc]
    rfl
  exact PySem.W.kia_one (PySem.W.kitx_exc (od := od) cl T.hg T.hk T.hs T.ha T.hn T.ht T.hm) I.kIn inst hk (fun z => nomatch z) fun tk => ⟨.bl b, H, I.tok tk, rfl, q⟩
/-- e.f of such an exception -/
def tXp (K : PySem.W.Frag) (f : Str) (te : TE) : TE := fun σ H Q => te σ H fun x H1 => ∃ (a C dd : Addr) (fs : List (Str × V)) (v : V), x = .ref a ∧ H1 a = some (Xco a (.ref C) (some dd)) ∧ H1 dd = some (.xd fs) ∧ fs.lookup f = some v ∧
  XfC K C ∧ PySem.W.findIn K (.ref C) f = some none ∧ Q v H1
theorem pe_xp {X : Cx} {e : Expr} {te : TE} {pos : Pos} {n : Str} (he : PE X e te) (hb : attributeBase e n X.env (eval e X.env) = eval e X.env := by rfl) : PE X (.Attribute e n pos) (tXp X.K n te) := by
  refine ⟨fun pins s σ H Q I h => attr_of hb (thn (he.run pins s σ H _ I h) fun u s1 got => ?_)⟩
  obtain ⟨x, H1, I1, rx, a, C, dd, fs, v, rfl, ea, ed, hl, T, hno, q⟩ := got
  cases rx
  obtain ⟨⟨oc, odd, dat, sl⟩, vs, get, ⟨z1, z2⟩, f⟩ := xco_at I1.hok ea
  dsimp only at z1 z2 f
  subst z1 z2 f
  have ok : ObjOk X.prog X.w H1 s1.heap dd (.xd fs) := I1.hok dd _ ed
  obtain ⟨mA, hns, hr⟩ := ok
  obtain ⟨od, ho, look⟩ := lookIn_ns hns
  obtain ⟨y, hy, ry⟩ := RelO.some_of (v := v) (o := mA n) (by rw [← hl]; exact hr n)
  have inst : PySem.W.InstAt s1.heap a ⟨.ref C, some dd, .fields vs, sl⟩ C (some od) := ⟨get, rfl, rfl, ho⟩
  exact HandSPX.exc_get I1.kIn inst T.ga T.gg T.exC (PySem.W.findObj_own T.hdC hno rfl (by rw [look, hy])) (handed_of ry) ⟨v, H1, I1.tok _, ry, q⟩
end Vk
/-! xs.count(y) of flat items -/
namespace Vk
open PySem PySem.Spec PyProof.Rows L2
theorem cnt_flat {y : V} : ∀ {ys : List V} {us : List Value}, Vals ys us → ys.all flatV = true → us.countP (eqU y) = ys.countP (fun z => eqV z y)
  | _, _, .nil, _ => rfl
  | _, _, .cons r t, f => by
    have f2 := Bool.and_eq_true_iff.mp f
    rw [List.countP_cons, List.countP_cons, cnt_flat t f2.2, eqU_of r f2.1]
def rCntV (K : PySem.W.Frag) : V → List V → Hp → VK → Prop := fun x xs H Q => ∃ (p : Addr) (ys : List V) (y : V), x = .ref p ∧ xs = [y] ∧ SqL K H p ys ∧ flatV y = true ∧ ys.all flatV = true ∧ Q (.int (ys.countP (fun z => eqV z y) : Nat)) H
theorem mt_countV {X : Cx} : MtR X "list.count" (rCntV X.K) := by
  intro pins s σ H x xs v us Q I rx rxs h
  obtain ⟨p, ys, y, rfl, rfl, hs, fy, fys, q⟩ := h
  cases rx
  obtain ⟨u, rfl, ru⟩ := rxs.one
  obtain ⟨its, rv, ⟨⟨cls, dd, data, sl⟩, n, ho, hc, hdn, hd⟩, hlen⟩ := I.list hs
  simp only at hc hd
  subst hc hd
  refine call_meets PySem.F.slot_list_count ⟨_, ho, rfl⟩ PySem.F.entry_list_count (PySem.F.args_list_count_2 _ _)
    (SeqAt.list_countAt p its.toArray n dd sl u (eqU y)) ⟨ho, fun z hz => mem_eqAt ru fy rv fys z (by simpa using hz), ?_⟩
  refine ⟨.int (ys.countP (fun z => eqV z y) : Nat), H, I.tok _, ⟨s.toks, ?_⟩, q⟩
  show Value.int ((its.toArray.toList.countP (eqU y) : Nat) : Int) s.toks = _
  rw [show its.toArray.toList = its from rfl, cnt_flat rv fys]
end Vk
/-! raise X(e), X an own error whose __init__ keeps one field -/
namespace Vk
open PySem PySem.Spec PyProof.Rows L2
def spIni (C : Addr) (fld : Str) : Sp := fun vs H Q _ => ∃ (a : Addr) (v : V), vs = [.ref a, v] ∧ H a = some (exo a C none) ∧ ∀ dx, H dx = none → dx ≠ a → Q .non (upd (upd H dx (exd dx [(fld, v)])) a (exo a C (some dx)))
structure ErC (P : Program) (w : World) (K : PySem.W.Frag) (mg : Str → Option Value) (base : Heap) (x fld : Str) (C : Addr) : Prop where
  gC : mg x = some (.ref C)
  oex : OexC K C
  ini : ∃ (fI : Addr) (fd : FuncData), PySem.W.findIn K (.ref C) "__init__" = some (some (.ref fI)) ∧ PySem.W.typeIn K (.ref fI) = some (.type "function") ∧ Binds K fd ["self", fld] [] ∧ FnOk P w K mg base CX0 1 fI fd ["self", fld] (spIni C fld)
def tRaiseE (C : Addr) (fld : Str) (W : WX) (te : TE) : TS := fun _ σ H => tMkO C (spIni C fld) [] (tCons te tNil) σ H fun cls d H' => W cls d σ H'
theorem put_del {H : Hp} {a d : Addr} {o u v x : HO} (ha : H a = none) (hd : H d = none) (ne : d ≠ a) : Same H (upd (del (upd (upd (upd H a o) d u) a v) a) d x) := .of fun b y e => by
  have nb : b ≠ a := ne_of_none e ha
  rw [upd_ne (ne_of_none e hd), del_ne nb, upd_ne nb, upd_ne (ne_of_none e hd), upd_ne nb]
  exact e
section
variable {X : Cx} {x fld : Str} {C : Addr} {W : WX} {e : Expr} {te : TE} {p pos pos2 : Pos} {k : Nat}
theorem ps_raiseE (T : ErC X.prog X.w X.K X.mg X.base x fld C) (hc : X.calm = true) (hr : Room k X.A) (hk : 2 ≤ k) (tk : Takes X W) (he : PE X e te) (hg : Gl X x := by rfl) (hdb : (x == ("__debug__" : Str)) = false := by decide)
    (hs : starEach (e :: []) X.env = (false, eval e X.env) :: starEach [] X.env := by rfl) (hpl : (backTo pos (starEach [] X.env)).any (·.1) = false := by rfl) :
    PS X (.Raise (some (.Call (.Name x p) [e] [] pos)) none pos2) (tRaiseE C fld W te) := by
  obtain ⟨fI, fd, h1, h2, h3, h4⟩ := T.ini
  have big := ps_raise (pos := pos2) hc tk (pmk_oex (p := p) (pos := pos) (CX := CX0) (k := 1) T.oex h1 h2 h4 (hr.mono hk) h3 .nil pass0 hg T.gC (pa_cons he pa_nil hs) hdb hs hpl)
  exact big
end
theorem raise_go {C : Addr} {fld : Str} {v : V} {H1 : Hp} {R : XK} {E : XK} (h : ∀ (d : Addr) (H2 : Hp), Same H1 H2 → H1 d = none → H2 d = some (.xd [(fld, v)]) → R (.ref C) (some d) H2) :
    [v].length ≤ 1000 ∧ ∀ a, H1 a = none → spIni C fld (.ref a :: ([v] ++ [])) (upd H1 a (exo a C none)) (fun u H2 => u = .non ∧ ∃ (d : Addr) (fs : List (Str × V)), H2 a = some (exo a C (some d)) ∧ H2 d = some (exd d fs) ∧ H1 d = none ∧ R (.ref C) (some d) (upd (del H2 a) d (.xd fs))) E := by
  refine ⟨by simp, fun a na => ⟨a, v, rfl, upd_same, fun dx nx ne => ?_⟩⟩
  have n1 : H1 dx = none := by
    rw [upd_ne ne] at nx
    exact nx
  refine ⟨rfl, dx, [(fld, v)], upd_same, by rw [upd_ne ne, upd_same], n1, h dx _ (put_del na n1 ne) n1 upd_same⟩
/-! ### the __init__ -/
structure Nit (K : PySem.W.Frag) (x qual fld : Str) (st : Stmt) (C : Addr) : Prop where
  ex : ∃ (fI : Addr) (fd : FuncData), PySem.W.findIn K (.ref C) "__init__" = some (some (.ref fI)) ∧ PySem.W.typeIn K (.ref fI) = some (.type "function") ∧ Fun K "__init__" qual st fI fd ∧ Binds K fd ["self", fld] []
end Vk
namespace Vk
open PySem PySem.Spec PyProof.Rows L2
section
variable {P : Program} {w : World} {K : PySem.W.Frag} {mg : Str → Option Value} {base : Heap}
theorem scInteger : FnScope ["value", "least"] ["value", "least"] (defScope sInteger) := ⟨rfl, rfl, rfl, by decide +kernel, rfl, by decide +kernel, by decide +kernel⟩
theorem ok_integer (D : Df K mg "is_integer" sInteger ["value", "least"]) (B : Blt mg) : Cl P w K mg base CX0 1 "is_integer" ["value", "least"] (spInteger K) := by
  refine cl0 D scInteger (fun vs H Q E h => ?_) (fun f cdv A outer s H vs Q E hr h => ?_)
  · obtain ⟨v, d, least, rfl, _⟩ := h
    rfl
  · obtain ⟨v, d, least, rfl, hd, k⟩ := h
    refine ⟨_, pss_one (ps_ret (pe_and (pe_callB call_isi (by rfl) B.isi (by decide +kernel) (pa_cons (pv 0) (pa_cons (pe_bltn (v := .ty "int") (u := .type "int") (by rfl) B.int (by decide +kernel) rfl) pa_nil))) (pe_and (pe_not (pe_callB call_isi (by rfl) B.isi (by decide +kernel) (pa_cons (pv 0) (pa_cons (pe_bltn (v := .ty "bool") (u := .type "bool") (by rfl) B.bool (by decide +kernel) rfl) pa_nil)))) (pe_one (pe_cmpR op_ge (pv 0) (pv 1) (nomark _)))))), ?_⟩
    refine ⟨_, rfl, v, _, _, _, _, rfl, .ty "int", dp_ty hd, kit_int hd, _, rfl, ?_⟩
    cases hd with
    | int i =>
      refine iteT ⟨_, rfl, _, _, _, _, _, rfl, .ty "bool", dp_ty (.int i), kit_bool (H := H) (.int i), _, rfl, _, rfl, iteT ?_⟩
      exact ⟨_, rfl, _, rfl, _, _, rfl, rfl, k⟩
    | bl b => exact iteT ⟨_, rfl, _, _, _, _, _, rfl, .ty "bool", dp_ty (.bl b), kit_bool (H := H) (.bl b), _, rfl, _, rfl, iteF k⟩
    | non => exact iteF k
    | str x => exact iteF k
    | lst q r => exact iteF k
    | tup q r => exact iteF k
theorem scInt : FnScope ["value", "least"] ["value", "least"] (defScope sInt) := ⟨rfl, rfl, rfl, by decide +kernel, rfl, by decide +kernel, by decide +kernel⟩
theorem ok_int (D : Df K mg "_law_is_int" sInt ["value", "least"]) (B : Blt mg) : Cl P w K mg base CX0 1 "_law_is_int" ["value", "least"] (spInteger K) := by
  refine cl0 D scInt (fun vs H Q E h => ?_) (fun f cdv A outer s H vs Q E hr h => ?_)
  · obtain ⟨v, d, least, rfl, _⟩ := h
    rfl
  · obtain ⟨v, d, least, rfl, hd, k⟩ := h
    refine ⟨_, pss_one (ps_ret (pe_and (pe_callB call_isi (by rfl) B.isi (by decide +kernel) (pa_cons (pv 0) (pa_cons (pe_bltn (v := .ty "int") (u := .type "int") (by rfl) B.int (by decide +kernel) rfl) pa_nil))) (pe_and (pe_not (pe_callB call_isi (by rfl) B.isi (by decide +kernel) (pa_cons (pv 0) (pa_cons (pe_bltn (v := .ty "bool") (u := .type "bool") (by rfl) B.bool (by decide +kernel) rfl) pa_nil)))) (pe_one (pe_cmpR op_ge (pv 0) (pv 1) (nomark _)))))), ?_⟩
    refine ⟨_, rfl, v, _, _, _, _, rfl, .ty "int", dp_ty hd, kit_int hd, _, rfl, ?_⟩
    cases hd with
    | int i =>
      refine iteT ⟨_, rfl, _, _, _, _, _, rfl, .ty "bool", dp_ty (.int i), kit_bool (H := H) (.int i), _, rfl, _, rfl, iteT ?_⟩
      exact ⟨_, rfl, _, rfl, _, _, rfl, rfl, k⟩
    | bl b => exact iteT ⟨_, rfl, _, _, _, _, _, rfl, .ty "bool", dp_ty (.bl b), kit_bool (H := H) (.bl b), _, rfl, _, rfl, iteF k⟩
    | non => exact iteF k
    | str x => exact iteF k
    | lst q r => exact iteF k
    | tup q r => exact iteF k
end
end Vk
/-! data beside the store: new tuples, lists, sums, slices -/
namespace Vk
open PySem PySem.Spec PyProof.Rows L2
theorem off_at {a p : Addr} {H : Hp} {o : HO} (h : H p = some o) (n : p ≠ a) : Off a H p = some o := by
  rw [off_ne n]
  exact h
theorem Kept.at {a p : Addr} {H H' : Hp} {o : HO} (k : Kept a H H') (h : H p = some o) (n : p ≠ a) (u : NoTbl o := by exact True.intro) : H' p = some o := (off_some (Same.at_ k _ _ (off_at h n) u)).2
theorem off_other {a p : Addr} {H : Hp} {o : HO} (h : p ≠ a) : Off a (upd H p o) = upd (Off a H) p o := by
  funext b
  by_cases h1 : b = a
  · subst h1
    rw [off_same, upd_ne h.symm, off_same]
  · rw [off_ne h1]
    by_cases h2 : b = p
    · subst h2
      rw [upd_same, upd_same]
    · rw [upd_ne h2, upd_ne h2, off_ne h1]
section
variable {K : PySem.W.Frag} {a p : Addr} {G : Hp} {vs : List V} {ds : List PyData} {o : HO}
theorem new_tup (hA : G a ≠ none) (np : G p = none) (h : DpAll K (Off a G) vs ds) : Dp K (Off a (upd G p (.tup vs))) (.ref p) (.tuple ds) := by
  have pa : p ≠ a := ne_has hA np
  exact .tup (SqT.of (by rw [off_ne pa, upd_same])) (dps_same (off_mono (same_new np)) h)
theorem new_lst (hA : G a ≠ none) (np : G p = none) (h : DpAll K (Off a G) vs ds) : Dp K (Off a (upd G p (.lst vs))) (.ref p) (.list ds) := by
  have pa : p ≠ a := ne_has hA np
  exact .lst (SqL.of (by rw [off_ne pa, upd_same])) (dps_same (off_mono (same_new np)) h)
theorem dp_up {H H' : Hp} {v : V} {d : PyData} (s : Same H H') (h : Dp K (Off a H) v d) : Dp K (Off a H') v d := dp_same (off_mono s) h
theorem dps_up {H H' : Hp} {v : List V} {d : List PyData} (s : Same H H') (h : DpAll K (Off a H) v d) : DpAll K (Off a H') v d := dps_same (off_mono s) h
theorem dp_on {H : Hp} {v : V} {d : PyData} (h : Dp K (Off a H) v d) : Dp K H v d := dp_same (off_sub a H) h
theorem atI_mem {xs : List V} {r : Int} (h0 : 0 ≤ r) (h1 : r < xs.length) : ∃ x, atI xs r = some x ∧ x ∈ xs := by
  have hj : r.toNat < xs.length := by omega
  have z := atI_nat (List.getElem?_eq_getElem hj)
  rw [Int.toNat_of_nonneg h0] at z
  exact ⟨_, z, List.getElem_mem hj⟩
theorem atI_dp {H : Hp} {xs : List V} {es : List PyData} {r : Int} (d : DpAll K H xs es) (h0 : 0 ≤ r) (h1 : r < es.length) : ∃ x e, atI xs r = some x ∧ es[r.toNat]? = some e ∧ Dp K H x e := by
  have hl := dps_len d
  have hj : r.toNat < es.length := by omega
  obtain ⟨x, hx, dx⟩ := dps_get d (List.getElem?_eq_getElem hj)
  have z := atI_nat hx
  rw [Int.toNat_of_nonneg h0] at z
  exact ⟨x, _, z, List.getElem?_eq_getElem hj, dx⟩
theorem cat_go {H : Hp} {x y : V} {ds es : List PyData} {Q : VK} (hA : H a ≠ none) (hx : Dp K (Off a H) x (.tuple ds)) (hy : Dp K (Off a H) y (.tuple es)) (hl : ds.length + es.length ≤ 1000)
    (k : ∀ z H', Same H H' → Dp K (Off a H') z (.tuple (ds ++ es)) → Q z H') : rCatA K x y H Q := by
  obtain ⟨p, xs, rfl, qx, rx⟩ := dp_tuple hx
  obtain ⟨q, ys, rfl, qy, ry⟩ := dp_tuple hy
  have l1 := dps_len rx
  have l2 := dps_len ry
  refine ⟨p, q, xs, ys, rfl, rfl, same_seqT (off_sub a H) qx, same_seqT (off_sub a H) qy, Nat.le_trans (show xs.length + ys.length ≤ 1000 by omega) (by decide), fun e => ?_, fun _ e => ?_, fun _ _ t nt => ?_⟩
  · subst e
    have e2 : ds = [] := List.eq_nil_of_length_eq_zero l1.symm
    subst e2
    exact k _ H (Same.refl H) hy
  · subst e
    have e2 : es = [] := List.eq_nil_of_length_eq_zero l2.symm
    subst e2
    rw [List.append_nil] at k
    exact k _ H (Same.refl H) hx
  · exact k _ _ (same_new nt) (new_tup hA nt (dps_app rx ry))
theorem slice_go {H : Hp} {x : V} {ds : List PyData} {lo hi : Option Int} {Q : VK} (hA : H a ≠ none) (hx : Dp K (Off a H) x (.tuple ds))
    (k : ∀ z H', Same H H' → Dp K (Off a H') z (.tuple ((ds.drop (HT.sIx ds.length 0 lo)).take (HT.sIx ds.length ds.length hi - HT.sIx ds.length 0 lo))) → Q z H') : rSlA K x lo hi H Q := by
  obtain ⟨p, xs, rfl, qx, rx⟩ := dp_tuple hx
  have l1 := dps_len rx
  refine ⟨p, xs, rfl, same_seqT (off_sub a H) qx, fun w => ?_, fun _ t nt => ?_⟩
  · rw [l1] at w
    have z := k (.ref p) H (Same.refl H)
    rw [w.1, w.2, List.drop_zero, Nat.sub_zero, List.take_length] at z
    exact z hx
  · refine k _ _ (same_new nt) (new_tup hA nt ?_)
    unfold cutV
    rw [l1]
    exact dps_take _ (dps_drop _ rx)
theorem dps_rep {H : Hp} {xs : List V} {es : List PyData} (d : DpAll K H xs es) : ∀ n : Nat, DpAll K H (List.replicate n xs).flatten (List.replicate n es).flatten
  | 0 => .nil
  | n + 1 => by
    rw [List.replicate_succ, List.replicate_succ, List.flatten_cons, List.flatten_cons]
    exact dps_app d (dps_rep d n)
end
end Vk
/-! xs == [], t != () -/
namespace Vk
open PySem PySem.Spec PyProof.Rows L2
def rEqNilL (K : PySem.W.Frag) : R2 := fun x y H Q => ∃ p q xs, x = .ref p ∧ y = .ref q ∧ SqL K H p xs ∧ SqL K H q [] ∧ Q (.bl xs.isEmpty) H
def rNeNilL (K : PySem.W.Frag) : R2 := fun x y H Q => ∃ p q xs, x = .ref p ∧ y = .ref q ∧ SqL K H p xs ∧ SqL K H q [] ∧ Q (.bl (!xs.isEmpty)) H
def rNeNilT (K : PySem.W.Frag) : R2 := fun x y H Q => ∃ p q xs, x = .ref p ∧ y = .ref q ∧ SqT K H p xs ∧ SqT K H q [] ∧ Q (.bl (!xs.isEmpty)) H
section
variable {X : Cx}
theorem op_eqNilL (hu : X.A.units < cLine) : OpR X (compareOp .Eq) (rEqNilL X.K) := by
  intro pins s σ H x y v u Q I rx ry h
  obtain ⟨p, q, xs, rfl, rfl, hp, hq, k⟩ := h
  cases rx
  cases ry
  obtain ⟨is1, r1, p1, _⟩ := I.list hp
  obtain ⟨is2, r2, p2, _⟩ := I.list hq
  cases r2
  have l1 := r1.length
  cases xs with
  | nil =>
    cases r1
    exact SeqAt.eq_listAt (e := fun _ => true) p1.isList p2.isList rfl hu (fun j h1 _ => absurd h1 (Nat.not_lt_zero _)) ⟨.bl true, H, I, rfl, k⟩
  | cons x r =>
    cases r1
    exact SeqAt.eq_list_lengthsAt p1.isList p2.isList (by simp) hu ⟨.bl false, H, I, rfl, k⟩
theorem op_neNilL (hu : X.A.units < cLine) : OpR X (compareOp .NotEq) (rNeNilL X.K) := by
  intro pins s σ H x y v u Q I rx ry h
  obtain ⟨p, q, xs, rfl, rfl, hp, hq, k⟩ := h
  cases rx
  cases ry
  obtain ⟨is1, r1, p1, _⟩ := I.list hp
  obtain ⟨is2, r2, p2, _⟩ := I.list hq
  cases r2
  have l1 := r1.length
  cases xs with
  | nil =>
    cases r1
    exact SeqAt.RcNeAt.lists (e := fun _ => true) p1.isList p2.isList rfl hu (fun j h1 _ => absurd h1 (Nat.not_lt_zero _)) _ _ _ _ ⟨.bl false, H, I, rfl, k⟩
  | cons x r =>
    cases r1
    exact SeqAt.RcNeAt.lists_lengths p1.isList p2.isList (by simp) hu _ _ _ _ ⟨.bl true, H, I, rfl, k⟩
theorem op_neNilT (hu : X.A.units < cLine) : OpR X (compareOp .NotEq) (rNeNilT X.K) := by
  intro pins s σ H x y v u Q I rx ry h
  obtain ⟨p, q, xs, rfl, rfl, hp, hq, k⟩ := h
  cases rx
  cases ry
  obtain ⟨is1, r1, p1, _⟩ := I.tuple hp
  obtain ⟨is2, r2, p2, _⟩ := I.tuple hq
  cases r2
  have l1 := r1.length
  have z : (!((List.range (min is1.toArray.size ([] : List Value).toArray.size)).all (fun _ => true) && is1.toArray.size == ([] : List Value).toArray.size)) = !xs.isEmpty := by
    cases xs with
    | nil =>
      cases r1
      rfl
    | cons x r =>
      cases r1
      simp
  refine SeqAt.RcNeAt.tuples (e := fun _ => true) p1 p2 hu (fun j _ h2 => absurd h2 (Nat.not_lt_zero _)) _ _ _ _ ?_
  rw [z]
  exact ⟨.bl (!xs.isEmpty), H, I, rfl, k⟩
end
end Vk
/-! all(lo <= c <= hi for c in text) -/
namespace Vk
open PySem PySem.Spec PyProof.Rows L2 GxR
def between (lo hi : Str) (c : Nat) : Bool := !decide ([c] < lo.cps.toList) && !decide (hi.cps.toList < [c])
theorem elt_between {prog : Program} {w : World} {scope : Scope} {x lo hi : Str} {j1 j2 : Nat} {p1 p2 p3 p4 : Pos} (hk : scope.kind = .function) (hl : scope.names.lookup x = some .local) (hd : (x == ("__debug__" : Str)) = false := by decide) :
    EltP prog w scope x (.Compare (.Constant (.str lo) j1 p1) [.LtE, .LtE] [.Name x p2, .Constant (.str hi) j2 p3] p4) (between lo hi) := by
  intro cenv A' E' c t s₂ m₂ hs hn hm
  refine Compare_chain ?_
  refine Calls.Constant_str (chain_link ?_)
  refine wpAny_Name (wpAny_loadName_local (by rw [hs]; exact hk) (show cenv.scope.names.lookup x = some .local by rw [hs]; exact hl) hn hm ?_) hd
  refine PySem.P.le_str (wpAny_truthy_bool ?_)
  have e1 : (⟨#[c]⟩ : Str).cps.toList = [c] := rfl
  cases h1 : decide ([c] < lo.cps.toList) with
  | true =>
    refine ite_ff ⟨?_, keeps_tok _ _⟩
    unfold between
    rw [h1]
    rfl
  | false =>
    refine ite_tt (chain_last (Calls.Constant_str (PySem.P.le_str ⟨?_, keeps_tok _ _⟩)))
    unfold between
    rw [h1]
    rfl
end Vk
namespace Vk
open PySem PySem.Spec PyProof.Rows L2 GxR
/-- a def whose code object stands at c -/
structure DfC (K : PySem.W.Frag) (mg : Str → Option Value) (x : Str) (st : Stmt) (ps : List Str) (c : Addr) : Prop where
  ex : ∃ (f : Addr) (oc : Value) (od : Option Addr) (kV doc pm : Value) (an : Option Addr) (ct : Value) (osl : Array (Option Value)), mg x = some (.ref f) ∧
    K.lookup f = some ⟨oc, od, .func (PySem.W.fnOf x x (defArgs st) (defBody st) (defScope st) .none kV doc pm an (.ref c) ct), osl⟩ ∧ PySem.W.codeIn K (.ref c) x = true ∧ PySem.W.keepIn K (.ref f) = true ∧
    Binds K (PySem.W.fnOf x x (defArgs st) (defBody st) (defScope st) .none kV doc pm an (.ref c) ct) ps []
theorem clC {P : Program} {w : World} {K : PySem.W.Frag} {mg : Str → Option Value} {base : Heap} {x : Str} {st : Stmt} {N ps : List Str} {k : Nat} {sp : Sp} {c : Addr} (D : DfC K mg x st ps c) (S : FnScope N ps (defScope st)) (len : ∀ vs H Q E, sp vs H Q E → vs.length = ps.length)
    (body : ∀ (f : Addr) (A : Around) (outer : List Env) (s : Shared) (H : Hp) (vs : List V) (Q : VK) (E : XK), Room k (A.deeper (envOfC x (defScope st) s.heap.objs.size f (.ref c))) → sp vs H Q E →
      ∃ t, PSs (cxOf CX0 P w K mg base N x (defScope st) f (.ref c) A outer s H E).nox (defBody st) t ∧ t { nx := fun _ H' => Q .non H', rt := Q } (start N vs) H) : Cl P w K mg base CX0 (k + 1) x ps sp := by
  obtain ⟨f, oc, od, kV, doc, pm, an, ct, osl, hm, lk, hcd, kp, b⟩ := D.ex
  refine ⟨f, _, hm, kp, b, fn_of lk hcd S len fun A outer s H vs Q E hr hsp => ?_⟩
  obtain ⟨t, h, q⟩ := body f A outer s H vs Q E hr hsp
  exact ⟨t, h.nox, q⟩
theorem twoLoc {R : Str × NameKind → Prop} {a b : Str} : ∀ y ∈ [(a, NameKind.local), (b, NameKind.local)], y.2 = .free → R y := by
  intro y hy e
  rcases List.mem_cons.mp hy with rfl | hy
  · cases e
  · rcases List.mem_cons.mp hy with rfl | hy
    · cases e
    · cases hy
theorem same_put {H Hc : Hp} {D : Addr} {o : HO} (s : Same H Hc) (n : H D = none) : Same H (upd Hc D o) := by
  have ne : ∀ {b : Addr} {u : HO}, H b = some u → b ≠ D := fun e => ne_of_none e n
  refine ⟨fun b u e nt => ?_, fun b e => ?_, fun P ⟨ps, e, t⟩ => ?_⟩
  · rw [upd_ne (ne e)]
    exact s.at_ b u e nt
  · by_cases z : b = D
    · rw [z] at e
      exact absurd n e
    · rw [upd_ne z]
      exact s.has b e
  · obtain ⟨qs, f, u⟩ := s.tab P ⟨ps, e, t⟩
    exact ⟨qs, by rw [upd_ne (ne e)]; exact f, u⟩
theorem find_at {n i : Nat} {p : Nat → Bool} (h : i < n) (hp : p i = true) (ok : ∀ j < i, p j = false) : (List.range n).find? p = some i := by
  rw [List.find?_range_eq_some]
  refine ⟨hp, List.mem_range.mpr h, fun j hj => ?_⟩
  rw [ok j hj]
  rfl
theorem find_no {n : Nat} {p : Nat → Bool} (ok : ∀ j < n, p j = false) : (List.range n).find? p = none := by
  rw [List.find?_eq_none]
  intro j hj
  rw [ok j (List.mem_range.mp hj)]
  exact Bool.false_ne_true
theorem inV_strs {n : Str} : ∀ ns : List Str, inV (.str n) (ns.map V.str) = ns.any (fun y => y == n)
  | [] => rfl
  | x :: ns => by
    have ih := inV_strs (n := n) ns
    show ((x == n) || inV (.str n) (ns.map V.str)) = ((x == n) || ns.any (fun y => y == n))
    rw [ih]
theorem flat_strs (ns : List Str) : (ns.map V.str).all flatV = true := by
  rw [List.all_eq_true]
  intro x hx
  obtain ⟨y, _, rfl⟩ := List.mem_map.mp hx
  rfl
theorem lt_one {a b : Nat} : ([a] < [b]) ↔ a < b := by
  constructor
  · intro h
    cases h with
    | rel h => exact h
    | cons h => cases h
  · intro h
    exact List.Lex.rel h
def optV : Option Int → V
  | some i => .int i
  | none => .non
theorem cutR {α : Type} {R : α} {F : α → Prop} {G : Prop} (h : F R → G) (c : F R) : G := h c
def sgn (c : Nat) : Str := ⟨#[c]⟩
theorem off_none {a : Addr} {H : Hp} (h : H a = none) : Off a H = H := by
  funext b
  by_cases e : b = a
  · rw [e, off_same, h]
  · rw [off_ne e]
theorem off_free {a D : Addr} {H : Hp} (h : H D = none) : Off a H D = none := by
  by_cases e : D = a
  · rw [e, off_same]
  · rw [off_ne e, h]
/-- what was built beside the store and a cell is built beside the store -/
theorem kept_of_off {a l : Addr} {H G : Hp} (h : H l = none) (k : Same (Off l (Off a H)) (Off l (Off a G))) : Kept a H G := by
  rw [off_none (off_free h)] at k
  exact k.trans (off_sub l _)
theorem kept_new_put {a D : Addr} {o : HO} {H G : Hp} (k : Kept a H G) (h : H D = none) (n : D ≠ a) : Kept a H (upd G D o) := by
  unfold Kept
  rw [off_other n]
  exact same_put k (off_free h)
theorem cps_app (x y : Str) : (x ++ y).cps.toList = x.cps.toList ++ y.cps.toList := by
  show (x.cps ++ y.cps).toList = _
  rw [Array.toList_append]
theorem cut_to {z : Str} {i : Nat} (h : i ≤ z.cps.toList.length) : (cutS z none (some (i : Int))).cps.toList = z.cps.toList.take i := by
  have e : HT.sIx z.length z.length (some (i : Int)) = i := by
    rw [HT.sIx_nat]
    have : z.length = z.cps.toList.length := by rw [Array.length_toList]; rfl
    omega
  show ((z.cps.toList.drop 0).take (HT.sIx z.length z.length (some (i : Int)) - 0)) = _
  rw [e]
  rfl
theorem cut_from {z : Str} {i : Nat} (h : i ≤ z.cps.toList.length) : (cutS z (some (i : Int)) none).cps.toList = z.cps.toList.drop i := by
  have e0 : z.length = z.cps.toList.length := by rw [Array.length_toList]; rfl
  have e : HT.sIx z.length 0 (some (i : Int)) = i := by
    rw [HT.sIx_nat]
    omega
  show ((z.cps.toList.drop (HT.sIx z.length 0 (some (i : Int)))).take (z.length - HT.sIx z.length 0 (some (i : Int)))) = _
  rw [e]
  exact List.take_of_length_le (by rw [List.length_drop]; omega)
theorem atI_three {x0 x1 x2 : V} {r : Int} (h0 : 0 ≤ r) (h4 : r < 3) : ∃ x, atI [x0, x1, x2] r = some x ∧ (x = x0 ∨ x = x1 ∨ x = x2) := by
  have z : r = 0 ∨ r = 1 ∨ r = 2 := by omega
  rcases z with rfl | rfl | rfl
  · exact ⟨_, rfl, .inl rfl⟩
  · exact ⟨_, rfl, .inr (.inl rfl)⟩
  · exact ⟨_, rfl, .inr (.inr rfl)⟩
theorem dps_set {K : PySem.W.Frag} {H : Hp} {v : V} {d : PyData} (hv : Dp K H v d) : ∀ {vs : List V} {ds : List PyData} (j : Nat), DpAll K H vs ds → DpAll K H (vs.set j v) (ds.set j d)
  | _, _, _, .nil => .nil
  | _, _, 0, .cons x r => .cons hv r
  | _, _, j + 1, .cons x r => .cons x (dps_set hv j r)
theorem ixN_nat {n j : Nat} (h : j < n) : ixN n ((0 : Int) + (j : Nat)) = some j := by
  rw [Int.zero_add]
  unfold ixN
  rw [if_pos (by omega), if_pos (by omega)]
  rfl
theorem slen {s : Str} : s.length = s.cps.toList.length := by rw [Array.length_toList]; rfl
theorem alen {x y : Str} : (x ++ y).length = x.length + y.length := by rw [slen, cps_app, List.length_append, ← slen, ← slen]
theorem log_ok {n : Nat} (h : n ≤ 10 ^ 30) : ((n : Int)).natAbs.log2 < 1920 := by
  rw [Int.natAbs_natCast]
  by_cases e : n = 0
  · subst e
    decide
  · exact (Nat.log2_lt e).mpr (Nat.lt_of_le_of_lt h (by decide))
theorem small_le {m : Nat} (h : m ≤ 200) : m ≤ sizeLine := Nat.le_trans h (by decide)
theorem dg_nat {t : Int} (h0 : 0 ≤ t) : ∃ n : Nat, t = (n : Int) := Int.eq_ofNat_of_zero_le h0
theorem cutP {R G : Prop} (h : R → G) (c : R) : G := h c
theorem atI_str {l : List Str} {r : Int} (h0 : 0 ≤ r) (h1 : r < l.length) : ∃ s, atI (l.map V.str) r = some (.str s) ∧ s ∈ l := by
  obtain ⟨x, h2, h3⟩ := atI_mem (xs := l.map V.str) h0 (by rw [List.length_map]; exact h1)
  obtain ⟨s, hs, rfl⟩ := List.mem_map.mp h3
  exact ⟨s, h2, hs⟩
theorem map_erase {α β : Type} (f : α → β) : ∀ (l : List α) (i : Nat), (l.map f).eraseIdx i = (l.eraseIdx i).map f
  | [], _ => rfl
  | x :: l, 0 => rfl
  | x :: l, i + 1 => by
    rw [List.map_cons, List.eraseIdx_cons_succ, List.eraseIdx_cons_succ, List.map_cons, map_erase f l i]
theorem cut_from_len (z : Str) (i : Nat) : (cutS z (some (i : Int)) none).length ≤ z.length - i := by
  have e0 : z.length = z.cps.toList.length := slen
  rw [slen]
  show ((z.cps.toList.drop (HT.sIx z.length 0 (some (i : Int)))).take (z.length - HT.sIx z.length 0 (some (i : Int)))).length ≤ _
  rw [HT.sIx_nat, List.length_take, List.length_drop]
  omega
theorem cut_to_len (z : Str) (i : Nat) : (cutS z none (some (i : Int))).length ≤ i := by
  have e0 : z.length = z.cps.toList.length := slen
  rw [slen]
  show ((z.cps.toList.drop 0).take (HT.sIx z.length z.length (some (i : Int)) - 0)).length ≤ _
  rw [HT.sIx_nat, List.length_take, List.length_drop]
  omega
theorem ixN_at {n : Nat} {i : Int} (h0 : 0 ≤ i) (h : i < n) : ixN n i = some i.toNat := by
  unfold ixN
  rw [if_pos h0, if_pos h]
theorem sq_at {n : Nat} {i : Int} (h0 : 0 ≤ i) (h : i < n) : seqIndex? i n = some i.toNat := by
  unfold seqIndex?
  simp
  omega
theorem cut1 {a : V} {l : List V} : cutV (a :: l) (some 1) none = l := by
  have e : HT.sIx (a :: l).length 0 (some 1) = 1 := by
    show HT.sIx (a :: l).length 0 (some ((1 : Nat) : Int)) = 1
    rw [HT.sIx_nat]
    simp only [List.length_cons]
    omega
  unfold cutV
  rw [e]
  show l.take ((a :: l).length - 1) = l
  exact List.take_of_length_le (by simp only [List.length_cons]; omega)
def optD : Option Int → PyData
  | some i => .int i
  | none => .none
theorem dp_opt {K : PySem.W.Frag} {H : Hp} : ∀ o : Option Int, Dp K H (optV o) (optD o)
  | some i => .int i
  | none => .non
theorem eq_strV (x s : Str) : decide (V.str x = V.str s) = decide (x = s) := by
  by_cases h : x = s
  · rw [h, decide_eq_true rfl, decide_eq_true rfl]
  · rw [decide_eq_false h, decide_eq_false (fun z => h (V.str.inj z))]
theorem units65 {k : Nat} {A : Around} (r : Room k A) : A.units + 65 < cLine := by have := r.un; omega
theorem find_some {n i : Nat} {p : Nat → Bool} (h : (List.range n).find? p = some i) : i < n ∧ p i = true ∧ ∀ j < i, p j = false := by
  rw [List.find?_range_eq_some] at h
  obtain ⟨h1, h2, h3⟩ := h
  refine ⟨List.mem_range.mp h2, h1, fun j hj => ?_⟩
  have z := h3 j hj
  cases hp : p j with
  | false => rfl
  | true =>
    rw [hp] at z
    cases z
theorem mem_joinL {s : Nat} {y : List Nat} : ∀ {ps : List (List Nat)}, s ∈ TL.joinL y ps → s ∈ y ∨ ∃ p ∈ ps, s ∈ p
  | [], h => by cases h
  | [p], h => .inr ⟨p, by simp, h⟩
  | p :: q :: r, h => by
    have z : s ∈ p ++ (y ++ TL.joinL y (q :: r)) := h
    rcases List.mem_append.mp z with z | z
    · exact .inr ⟨p, by simp, z⟩
    · rcases List.mem_append.mp z with z | z
      · exact .inl z
      · rcases mem_joinL z with z | ⟨p', hp', z⟩
        · exact .inl z
        · exact .inr ⟨p', List.mem_cons_of_mem _ hp', z⟩
theorem joinL_len {y : List Nat} {m : Nat} : ∀ {ps : List (List Nat)}, (∀ p ∈ ps, p.length ≤ m) → (TL.joinL y ps).length ≤ ps.length * (m + y.length)
  | [], _ => Nat.zero_le _
  | [p], h => by
    have := h p (by simp)
    show p.length ≤ 1 * (m + y.length)
    omega
  | p :: q :: r, h => by
    have h1 := h p (by simp)
    have h2 := joinL_len (y := y) (m := m) (ps := q :: r) fun x hx => h x (List.mem_cons_of_mem _ hx)
    show (p ++ (y ++ TL.joinL y (q :: r))).length ≤ _
    rw [List.length_append, List.length_append, List.length_cons, Nat.succ_mul]
    omega
def rEqNilT (K : PySem.W.Frag) : R2 := fun x y H Q => ∃ p q xs, x = .ref p ∧ y = .ref q ∧ SqT K H p xs ∧ SqT K H q [] ∧ Q (.bl xs.isEmpty) H
theorem op_eqNilT {X : Cx} (hu : X.A.units < cLine) : OpR X (compareOp .Eq) (rEqNilT X.K) := by
  intro pins s σ H x y v u Q I rx ry h
  obtain ⟨p, q, xs, rfl, rfl, hp, hq, k⟩ := h
  cases rx
  cases ry
  obtain ⟨is1, r1, p1, _⟩ := I.tuple hp
  obtain ⟨is2, r2, p2, _⟩ := I.tuple hq
  cases r2
  have z : ((List.range (min is1.toArray.size ([] : List Value).toArray.size)).all (fun _ => true) && is1.toArray.size == ([] : List Value).toArray.size) = xs.isEmpty := by
    cases xs with
    | nil =>
      cases r1
      rfl
    | cons x r =>
      cases r1
      simp
  refine SeqAt.eq_tupleAt (e := fun _ => true) p1 p2 hu (fun j _ h2 => absurd h2 (Nat.not_lt_zero _)) ?_
  rw [z]
  exact ⟨.bl xs.isEmpty, H, I, rfl, k⟩
end Vk
namespace Vk
open PySem PySem.Spec PyProof.Rows L2 GxR
def intsD (xs : List Int) : List PyData := xs.map PyData.int
/-- the place of the first entry that is wrong -/
def badOrd (n : Int) : List Int → Nat → List PyData → Option Nat
  | _, _, [] => none
  | pre, i, .int v :: r => if 0 ≤ v ∧ v < n ∧ v ∉ pre then badOrd n (pre ++ [v]) (i + 1) r else some i
  | _, i, _ :: _ => some i
def orderPlace : PyData → Option Int
  | .tuple ds => match badOrd ds.length [] 0 ds with
    | some i => some (i : Int)
    | none => none
  | _ => some 0
def lenT : PyData → Nat
  | .tuple ds => ds.length
  | _ => 0
structure IsOrd (os : List Int) : Prop where
  rng : ∀ v ∈ os, 0 ≤ v ∧ v < (os.length : Int)
  nd : os.Nodup
theorem bad_none : ∀ {ds : List PyData} {n : Int} {pre : List Int} {i : Nat}, badOrd n pre i ds = none → ∃ os : List Int, ds = intsD os ∧ (∀ v ∈ os, 0 ≤ v ∧ v < n ∧ v ∉ pre) ∧ os.Nodup
  | [], _, _, _, _ => ⟨[], rfl, fun _ h => absurd h (by simp), List.nodup_nil⟩
  | d :: r, n, pre, i, h => by
    cases d with
    | int v =>
      replace h : (if 0 ≤ v ∧ v < n ∧ v ∉ pre then badOrd n (pre ++ [v]) (i + 1) r else some i) = none := h
      split at h
      · rename_i hv
        obtain ⟨os, rfl, h1, h2⟩ := bad_none h
        refine ⟨v :: os, rfl, fun u hu => ?_, List.nodup_cons.mpr ⟨fun hu => ?_, h2⟩⟩
        · rcases List.mem_cons.mp hu with rfl | hu
          · exact hv
          · obtain ⟨a, b, c⟩ := h1 u hu
            exact ⟨a, b, fun z => c (by simp [z])⟩
        · exact (h1 v hu).2.2 (by simp)
      · cases h
    | none => cases h
    | bool _ => cases h
    | str _ => cases h
    | list _ => cases h
    | tuple _ => cases h
    | dict _ => cases h
theorem bad_ints : ∀ {os : List Int} {n : Int} {pre : List Int} {i : Nat}, (∀ v ∈ os, 0 ≤ v ∧ v < n ∧ v ∉ pre) → os.Nodup → badOrd n pre i (intsD os) = none
  | [], _, _, _, _, _ => rfl
  | v :: r, n, pre, i, h, nd => by
    show (if 0 ≤ v ∧ v < n ∧ v ∉ pre then badOrd n (pre ++ [v]) (i + 1) (intsD r) else some i) = none
    obtain ⟨n1, n2⟩ := List.nodup_cons.mp nd
    rw [if_pos (h v (by simp))]
    refine bad_ints (fun u hu => ?_) n2
    obtain ⟨a, b, c⟩ := h u (List.mem_cons_of_mem _ hu)
    refine ⟨a, b, fun z => ?_⟩
    rcases List.mem_append.mp z with z | z
    · exact c z
    · rw [List.mem_singleton.mp z] at hu
      exact n1 hu
theorem order_of {d : PyData} (h : orderPlace d = none) : ∃ os, d = .tuple (intsD os) ∧ IsOrd os := by
  cases d with
  | tuple ds =>
    have h1 : badOrd ds.length [] 0 ds = none := by
      unfold orderPlace at h
      cases e : badOrd (ds.length : Nat) [] 0 ds with
      | none => rfl
      | some i =>
        dsimp only at h
        rw [e] at h
        cases h
    obtain ⟨os, rfl, a, b⟩ := bad_none h1
    have l : (intsD os).length = os.length := List.length_map ..
    rw [l] at a
    exact ⟨os, rfl, fun v hv => ⟨(a v hv).1, (a v hv).2.1⟩, b⟩
  | none => cases h
  | bool _ => cases h
  | int _ => cases h
  | str _ => cases h
  | list _ => cases h
  | dict _ => cases h
theorem order_none {os : List Int} (h : IsOrd os) : orderPlace (.tuple (intsD os)) = none := by
  have l : (intsD os).length = os.length := List.length_map ..
  show (match badOrd (intsD os).length [] 0 (intsD os) with | some i => some (i : Int) | none => none) = none
  rw [bad_ints (fun v hv => ⟨(h.rng v hv).1, by rw [l]; exact (h.rng v hv).2, by simp⟩) h.nd]
/-! ### as many different ones as there can be -/
theorem len_sub : ∀ {xs ys : List Int}, xs.Nodup → (∀ x ∈ xs, x ∈ ys) → xs.length ≤ ys.length
  | [], ys, _, _ => Nat.zero_le _
  | x :: r, ys, nd, h => by
    obtain ⟨n1, n2⟩ := List.nodup_cons.mp nd
    have z := len_sub (xs := r) (ys := ys.erase x) n2 (fun u hu => by
      refine (List.mem_erase_of_ne (fun e => ?_)).mpr (h u (List.mem_cons_of_mem _ hu))
      rw [e] at hu
      exact n1 hu)
    rw [List.length_erase_of_mem (h x (by simp))] at z
    have p := List.length_pos_of_mem (h x (by simp))
    rw [List.length_cons]
    omega
theorem IsOrd.all {os : List Int} (h : IsOrd os) {v : Int} (h0 : 0 ≤ v) (h1 : v < (os.length : Int)) : v ∈ os := by
  refine Classical.byContradiction fun no => ?_
  have z := len_sub (xs := v :: os) (ys := (List.range os.length).map fun (i : Nat) => (i : Int)) (List.nodup_cons.mpr ⟨no, h.nd⟩) (fun u hu => by
    have r : 0 ≤ u ∧ u < (os.length : Int) := by
      rcases List.mem_cons.mp hu with rfl | hu
      · exact ⟨h0, h1⟩
      · exact h.rng u hu
    exact List.mem_map.mpr ⟨u.toNat, List.mem_range.mpr (by omega), by omega⟩)
  rw [List.length_cons, List.length_map, List.length_range] at z
  omega
/-! ### lengths and their order -/
def lv (ls : List Int) (v : Int) : Int := ls.getD v.toNat 0
def ov (os : List Int) (i : Nat) : Int := os.getD i 0
def lnk (ls : List Int) (a b : Int) : Prop := lv ls a < lv ls b ∨ (lv ls a = lv ls b ∧ a < b)
def Chn (ls os : List Int) (k : Nat) : Prop := ∀ i, i + 1 < k → lnk ls (ov os i) (ov os (i + 1))
theorem lnk_trans {ls : List Int} {a b c : Int} (h : lnk ls a b) (g : lnk ls b c) : lnk ls a c := by
  unfold lnk at *
  omega
theorem lnk_irr {ls : List Int} {a b : Int} (h : lnk ls a b) (g : lnk ls b a) : False := by
  unfold lnk at *
  omega
theorem ov_get {os : List Int} {i : Nat} (h : i < os.length) : os[i]? = some (ov os i) := by
  unfold ov
  rw [List.getD_eq_getElem?_getD, List.getElem?_eq_getElem h]
  rfl
theorem ov_mem {os : List Int} {i : Nat} (h : i < os.length) : ov os i ∈ os := List.mem_of_getElem? (ov_get h)
theorem ov_inj {os : List Int} (h : os.Nodup) {i j : Nat} (hi : i < os.length) (hj : j < os.length) (e : ov os i = ov os j) : i = j := by
  have a := ov_get hi
  have b := ov_get hj
  rw [← e] at b
  exact (List.getElem?_inj hi h).mp (a.trans b.symm)
theorem chn_all {ls os : List Int} {k : Nat} (c : Chn ls os k) {i j : Nat} (h : i < j) (hj : j < k) : lnk ls (ov os i) (ov os j) := by
  induction j with
  | zero => omega
  | succ j ih =>
    by_cases e : i = j
    · rw [e]
      exact c j hj
    · exact lnk_trans (ih (by omega) (by omega)) (c j hj)
/-- an order of these lengths is the only one -/
theorem ord_uniq {ls os us : List Int} (h : IsOrd os) (g : IsOrd us) (e : os.length = us.length) (c : Chn ls os os.length) (d : Chn ls us us.length) : os = us := by
  have key : ∀ k, k ≤ os.length → ∀ i, i < k → ov os i = ov us i := by
    intro k
    induction k with
    | zero => intro _ i hi; omega
    | succ k ih =>
      intro hk i hi
      have ih := ih (by omega)
      by_cases z : i < k
      · exact ih i z
      have ei : i = k := by omega
      subst ei
      refine Classical.byContradiction fun ne => ?_
      have m1 : ov us i ∈ os := h.all (g.rng _ (ov_mem (by omega))).1 (by rw [e]; exact (g.rng _ (ov_mem (by omega))).2)
      have m2 : ov os i ∈ us := g.all (h.rng _ (ov_mem (by omega))).1 (by rw [← e]; exact (h.rng _ (ov_mem (by omega))).2)
      obtain ⟨a, ha, ea⟩ := List.mem_iff_getElem.mp m1
      obtain ⟨b, hb, eb⟩ := List.mem_iff_getElem.mp m2
      have ea' : ov os a = ov us i := by
        have := ov_get ha
        rw [List.getElem?_eq_getElem ha, ea] at this
        exact (Option.some.inj this).symm
      have eb' : ov us b = ov os i := by
        have := ov_get hb
        rw [List.getElem?_eq_getElem hb, eb] at this
        exact (Option.some.inj this).symm
      have a1 : i < a := by
        refine Nat.lt_of_not_le fun le => ?_
        by_cases q : a = i
        · subst q
          exact ne ea'
        · have z1 := ih a (by omega)
          have z2 := ov_inj g.nd (i := a) (j := i) (by omega) (by omega) (z1.symm.trans ea')
          omega
      have b1 : i < b := by
        refine Nat.lt_of_not_le fun le => ?_
        by_cases q : b = i
        · subst q
          exact ne eb'.symm
        · have z1 := ih b (by omega)
          have z2 := ov_inj h.nd (i := b) (j := i) (by omega) (by omega) (z1.trans eb')
          omega
      have l1 := chn_all c a1 ha
      have l2 := chn_all d b1 hb
      rw [ea'] at l1
      rw [eb'] at l2
      exact lnk_irr l1 l2
  refine List.ext_getElem? fun i => ?_
  by_cases z : i < os.length
  · rw [ov_get z, ov_get (by omega), key os.length (Nat.le_refl _) i z]
  · rw [List.getElem?_eq_none (by omega), List.getElem?_eq_none (by omega)]
/-- the least length at a place of the order -/
def st (os : List Int) : Nat → Int
  | 0 => 1
  | i + 1 => if ov os (i + 1) < ov os i then st os i + 1 else st os i
theorem st_pos (os : List Int) : ∀ i, 1 ≤ st os i
  | 0 => Int.le_refl _
  | i + 1 => by
    have z := st_pos os i
    show 1 ≤ if ov os (i + 1) < ov os i then st os i + 1 else st os i
    split <;> omega
def Lst (ls os : List Int) : Prop := ls.length = os.length ∧ ∀ j, j < os.length → lv ls (ov os j) = st os j
theorem lst_chn {ls os : List Int} (h : IsOrd os) (l : Lst ls os) : Chn ls os os.length := by
  intro i hi
  unfold lnk
  rw [l.2 i (by omega), l.2 (i + 1) hi]
  show st os i < (if ov os (i + 1) < ov os i then st os i + 1 else st os i) ∨ _
  by_cases z : ov os (i + 1) < ov os i
  · rw [if_pos z]
    exact .inl (by omega)
  · refine .inr ⟨?_, ?_⟩
    · show _ = (if ov os (i + 1) < ov os i then st os i + 1 else st os i)
      rw [if_neg z]
    · have ne : ov os i ≠ ov os (i + 1) := fun e => by
        have := ov_inj h.nd (by omega) hi e
        omega
      omega
theorem at_ord {ls os : List Int} (h : IsOrd os) (e : ls.length = os.length) {i : Nat} (hi : i < ls.length) : ∃ j, j < os.length ∧ ov os j = (i : Int) := by
  obtain ⟨j, hj, ej⟩ := List.mem_iff_getElem.mp (h.all (v := (i : Int)) (by omega) (by omega))
  refine ⟨j, hj, ?_⟩
  have := ov_get hj
  rw [List.getElem?_eq_getElem hj, ej] at this
  exact (Option.some.inj this).symm
theorem lst_pos {ls os : List Int} (h : IsOrd os) (l : Lst ls os) : ∀ v ∈ ls, 1 ≤ v := by
  intro v hv
  obtain ⟨i, hi, e⟩ := List.mem_iff_getElem.mp hv
  obtain ⟨j, hj, ej⟩ := at_ord h l.1 hi
  have z := l.2 j hj
  rw [ej] at z
  have e2 : lv ls (i : Int) = v := by
    unfold lv
    rw [Int.toNat_natCast, List.getD_eq_getElem?_getD, List.getElem?_eq_getElem hi, e]
    rfl
  rw [← e2, z]
  exact st_pos os j
/-- no lengths of the order are less -/
theorem lst_min {os ms : List Int} (h : IsOrd os) (e : ms.length = os.length) (p : ∀ v ∈ ms, 1 ≤ v) (c : Chn ms os os.length) : ∀ j, j < os.length → st os j ≤ lv ms (ov os j)
  | 0, hj => by
    have r := h.rng _ (ov_mem hj)
    refine p _ ?_
    have hk : (ov os 0).toNat < ms.length := by omega
    unfold lv
    rw [List.getD_eq_getElem?_getD, List.getElem?_eq_getElem hk]
    exact List.getElem_mem hk
  | j + 1, hj => by
    have z := lst_min h e p c j (by omega)
    have k := c j hj
    show (if ov os (j + 1) < ov os j then st os j + 1 else st os j) ≤ _
    unfold lnk at k
    split <;> omega
theorem lst_le {ls os ms : List Int} (h : IsOrd os) (l : Lst ls os) (e : ms.length = os.length) (p : ∀ v ∈ ms, 1 ≤ v) (c : Chn ms os os.length) {i : Nat} (hi : i < ls.length) : lv ls (i : Int) ≤ lv ms (i : Int) := by
  obtain ⟨j, hj, ej⟩ := at_ord h l.1 hi
  have z := lst_min h e p c j hj
  have z2 := l.2 j hj
  rw [ej] at z z2
  omega
theorem lv_set {ls : List Int} {i : Nat} {x v : Int} (hi : i < ls.length) (h0 : 0 ≤ v) : lv (ls.set i x) v = if v = (i : Int) then x else lv ls v := by
  unfold lv
  rw [List.getD_eq_getElem?_getD, List.getD_eq_getElem?_getD, List.getElem?_set]
  by_cases e : i = v.toNat
  · rw [if_pos e, if_pos hi, if_pos (by omega)]
    rfl
  · rw [if_neg e, if_neg (by omega)]
theorem eqvs_ints : ∀ {xs ys : List Int}, PyData.eqv (.tuple (intsD xs)) (.tuple (intsD ys)) = true → xs = ys
  | [], [], _ => rfl
  | [], y :: ys, h => by simp [intsD, PyData.eqv, PyData.eqvAll] at h
  | x :: xs, [], h => by simp [intsD, PyData.eqv, PyData.eqvAll] at h
  | x :: xs, y :: ys, h => by
    have h2 : x = y ∧ PyData.eqv (.tuple (intsD xs)) (.tuple (intsD ys)) = true := by
      simpa [intsD, PyData.eqv, PyData.eqvAll] using h
    rw [h2.1, eqvs_ints h2.2]
theorem shape_ints : ∀ xs : List Int, PyData.canLayAll0 (intsD xs) = true ∧ PyData.depthAll (intsD xs) ≤ 1
  | [] => by simp [intsD, PyData.canLayAll0, PyData.depthAll]
  | x :: r => by
    obtain ⟨a, b⟩ := shape_ints r
    unfold intsD at a b ⊢
    refine ⟨?_, ?_⟩
    · simp [PyData.canLayAll0, a, PyData.canLay0]
    · simp [PyData.depthAll, PyData.depth]
      omega
theorem shaped_ints (xs : List Int) : SeqAt.shaped (.tuple (intsD xs)) = true := by
  obtain ⟨a, b⟩ := shape_ints xs
  unfold SeqAt.shaped
  rw [show PyData.canLay0 (.tuple (intsD xs)) = true from by simp [PyData.canLay0, a], Bool.true_and]
  refine decide_eq_true ?_
  simp [PyData.depth]
  omega
theorem dps_ints {K : PySem.W.Frag} {H : Hp} : ∀ {xs : List Int}, DpAll K H (xs.map V.int) (intsD xs)
  | [] => .nil
  | _ :: _ => .cons (.int _) dps_ints
theorem ints_dps {K : PySem.W.Frag} {H : Hp} : ∀ {vs : List V} {xs : List Int}, DpAll K H vs (intsD xs) → vs = xs.map V.int
  | _, [], .nil => rfl
  | _, x :: r, .cons h t => by
    rw [dp_int h, ints_dps t]
    rfl
theorem ints_inj {xs ys : List Int} (h : intsD xs = intsD ys) : xs = ys := by
  unfold intsD at h
  exact (List.map_inj_right (fun a b e => PyData.int.inj e)).mp h
section
variable {K : PySem.W.Frag} {H : Hp}
theorem slice_go0 {x : V} {ds : List PyData} {lo hi : Option Int} {Q : VK} (hx : Dp K H x (.tuple ds))
    (k : ∀ z H', Same H H' → Dp K H' z (.tuple ((ds.drop (HT.sIx ds.length 0 lo)).take (HT.sIx ds.length ds.length hi - HT.sIx ds.length 0 lo))) → Q z H') : rSlA K x lo hi H Q := by
  obtain ⟨p, xs, rfl, qx, rx⟩ := dp_tuple hx
  have l1 := dps_len rx
  refine ⟨p, xs, rfl, qx, fun w => ?_, fun _ t nt => ?_⟩
  · rw [l1] at w
    have z := k (.ref p) H (Same.refl H)
    rw [w.1, w.2, List.drop_zero, Nat.sub_zero, List.take_length] at z
    exact z hx
  · refine k _ _ (same_new nt) (.tup (SqT.of upd_same) (dps_same (same_new nt) ?_))
    unfold cutV
    rw [l1]
    exact dps_take _ (dps_drop _ rx)
theorem cat_go0 {x y : V} {ds es : List PyData} {Q : VK} (hx : Dp K H x (.tuple ds)) (hy : Dp K H y (.tuple es)) (hl : ds.length + es.length ≤ 1000)
    (k : ∀ z H', Same H H' → Dp K H' z (.tuple (ds ++ es)) → Q z H') : rCatA K x y H Q := by
  obtain ⟨p, xs, rfl, qx, rx⟩ := dp_tuple hx
  obtain ⟨q, ys, rfl, qy, ry⟩ := dp_tuple hy
  have l1 := dps_len rx
  have l2 := dps_len ry
  refine ⟨p, q, xs, ys, rfl, rfl, qx, qy, Nat.le_trans (show xs.length + ys.length ≤ 1000 by omega) (by decide), fun e => ?_, fun _ e => ?_, fun _ _ t nt => ?_⟩
  · subst e
    have e2 : ds = [] := List.eq_nil_of_length_eq_zero l1.symm
    subst e2
    exact k _ H (Same.refl H) hy
  · subst e
    have e2 : es = [] := List.eq_nil_of_length_eq_zero l2.symm
    subst e2
    rw [List.append_nil] at k
    exact k _ H (Same.refl H) hx
  · exact k _ _ (same_new nt) (.tup (SqT.of upd_same) (dps_same (same_new nt) (dps_app rx ry)))
theorem nt0 {p : Addr} {G : Hp} {vs : List V} {ds : List PyData} (np : G p = none) (h : DpAll K G vs ds) : Dp K (upd G p (.tup vs)) (.ref p) (.tuple ds) := .tup (SqT.of upd_same) (dps_same (same_new np) h)
end
/-- the first ones of a slice -/
theorem sl_to {n i : Nat} (h : i ≤ n) : HT.sIx n n (some (i : Int)) = i := by rw [HT.sIx_nat]; omega
theorem sl_from {n i : Nat} (h : i ≤ n) : HT.sIx n 0 (some (i : Int)) = i := by rw [HT.sIx_nat]; omega
end Vk
namespace Vk
open PySem PySem.Spec PyProof.Rows L2
/-- the truth of the twelve questions, for the class with number i -/
def bits (i : Nat) : List V := (List.range 12).map fun j => V.bl (decide (j = i))
def words7 : List Str := ["jobs", "rule", "lengths", "log", "marks", "named", "order"]
theorem bits_len (i : Nat) : (bits i).length = 12 := by simp [bits]
theorem bits_get {i m : Nat} (h : m < 12) : (bits i)[m]? = some (V.bl (decide (m = i))) := by
  unfold bits
  rw [List.getElem?_map, List.getElem?_range h]
  rfl
theorem bits_flat (i : Nat) : (bits i).all flatV = true := by
  unfold bits
  rw [List.all_eq_true]
  intro x hx
  obtain ⟨j, _, rfl⟩ := List.mem_map.mp hx
  rfl
theorem bits_cnt : ∀ i : Fin 12, (bits i.1).countP (fun z => eqV z (.bl true)) = 1 := by decide +kernel
structure Kn (K : PySem.W.Frag) (mg : Str → Option Value) (C : Addr) (i : Nat) : Prop where
  ex : ExcC K C
  xf : XfC K C
  noP : PySem.W.findIn K (.ref C) "place" = some none
  ve : mg "ValueError" = none
  kv : PySem.W.kitOne K (.ref C) (.type "ValueError") = some true
  se : ∃ S, mg "SlotError" = some (.ref S) ∧ PySem.W.kitOne K (.ref C) (.ref S) = some true ∧ PySem.W.exmOne K (.ref C) (.ref S) = some true
  c0 : ∃ D, mg "NoJobs" = some (.ref D) ∧ PySem.W.kitOne K (.ref C) (.ref D) = some (decide (0 = i))
  c1 : ∃ D, mg "NoRule" = some (.ref D) ∧ PySem.W.kitOne K (.ref C) (.ref D) = some (decide (1 = i))
  c2 : ∃ D, mg "NoLengths" = some (.ref D) ∧ PySem.W.kitOne K (.ref C) (.ref D) = some (decide (2 = i))
  c3 : ∃ D, mg "NoLog" = some (.ref D) ∧ PySem.W.kitOne K (.ref C) (.ref D) = some (decide (3 = i))
  c4 : ∃ D, mg "NoMarks" = some (.ref D) ∧ PySem.W.kitOne K (.ref C) (.ref D) = some (decide (4 = i))
  c5 : ∃ D, mg "NoNamed" = some (.ref D) ∧ PySem.W.kitOne K (.ref C) (.ref D) = some (decide (5 = i))
  c6 : ∃ D, mg "NoOrder" = some (.ref D) ∧ PySem.W.kitOne K (.ref C) (.ref D) = some (decide (6 = i))
  c7 : ∃ D, mg "NoText" = some (.ref D) ∧ PySem.W.kitOne K (.ref C) (.ref D) = some (decide (7 = i))
  c8 : ∃ D, mg "NoNumber" = some (.ref D) ∧ PySem.W.kitOne K (.ref C) (.ref D) = some (decide (8 = i))
  c9 : ∃ D, mg "NoName" = some (.ref D) ∧ PySem.W.kitOne K (.ref C) (.ref D) = some (decide (9 = i))
  c10 : ∃ D, mg "NoUndo" = some (.ref D) ∧ PySem.W.kitOne K (.ref C) (.ref D) = some (decide (10 = i))
  c11 : ∃ D, mg "NoLine" = some (.ref D) ∧ PySem.W.kitOne K (.ref C) (.ref D) = some (decide (11 = i))
section
variable {P : Program} {w : World} {K : PySem.W.Frag} {mg : Str → Option Value} {base : Heap}
def spKind (C : Addr) (i : Nat) : Sp := fun vs H Q _ => ∃ (a dd : Addr) (v : V), vs = [.ref a] ∧ H a = some (Xco a (.ref C) (some dd)) ∧ H dd = some (.xd [(("place" : Str), v)]) ∧
  ∀ (t : Addr) (H' : Hp), Same H H' → H' t = some (.tup [.str (words7.getD i ""), v]) → Q (.ref t) H'
theorem scKind : FnScope ["caught", "kinds", "at"] ["caught"] (defScope sKind) := ⟨rfl, rfl, rfl, by decide +kernel, rfl, by decide +kernel, by decide +kernel⟩
theorem ok_kind {C : Addr} {i : Nat} (hi : i < 7) (D : Df K mg "_law_kind" sKind ["caught"]) (B : Blt mg) (N : Kn K mg C i) : Cl P w K mg base CX0 1 "_law_kind" ["caught"] (spKind C i) := by
  refine cl0 D scKind (fun vs H Q E h => ?_) (fun f cdv A outer s H vs Q E hr h => ?_)
  · obtain ⟨a, dd, v, rfl, _⟩ := h
    rfl
  · obtain ⟨a, dd, v, rfl, ha, hdd, k⟩ := h
    obtain ⟨S, mS, kS, _⟩ := N.se
    obtain ⟨D0, m0, k0⟩ := N.c0
    obtain ⟨D1, m1, k1⟩ := N.c1
    obtain ⟨D2, m2, k2⟩ := N.c2
    obtain ⟨D3, m3, k3⟩ := N.c3
    obtain ⟨D4, m4, k4⟩ := N.c4
    obtain ⟨D5, m5, k5⟩ := N.c5
    obtain ⟨D6, m6, k6⟩ := N.c6
    obtain ⟨D7, m7, k7⟩ := N.c7
    obtain ⟨D8, m8, k8⟩ := N.c8
    obtain ⟨D9, m9, k9⟩ := N.c9
    obtain ⟨D10, m10, k10⟩ := N.c10
    obtain ⟨D11, m11, k11⟩ := N.c11
    refine ⟨_, pss_cons (ps_set (i := 1) scKind.nd rfl (Or.inl rfl) (pe_lst (pa_cons (pe_callB call_isX (by rfl) B.isi (by decide +kernel) (pa_cons (pv 0) (pa_cons (pe_glob rfl m0 (show RelV (.ref _) _ from rfl)) pa_nil))) (pa_cons (pe_callB call_isX (by rfl) B.isi (by decide +kernel) (pa_cons (pv 0) (pa_cons (pe_glob rfl m1 (show RelV (.ref _) _ from rfl)) pa_nil))) (pa_cons (pe_callB call_isX (by rfl) B.isi (by decide +kernel) (pa_cons (pv 0) (pa_cons (pe_glob rfl m2 (show RelV (.ref _) _ from rfl)) pa_nil))) pa_nil)))))
      (pss_cons (ps_set (i := 1) scKind.nd rfl (Or.inl rfl) (pe_op op_cat (pv 1) (pe_lst (pa_cons (pe_callB call_isX (by rfl) B.isi (by decide +kernel) (pa_cons (pv 0) (pa_cons (pe_glob rfl m3 (show RelV (.ref _) _ from rfl)) pa_nil))) (pa_cons (pe_callB call_isX (by rfl) B.isi (by decide +kernel) (pa_cons (pv 0) (pa_cons (pe_glob rfl m4 (show RelV (.ref _) _ from rfl)) pa_nil))) (pa_cons (pe_callB call_isX (by rfl) B.isi (by decide +kernel) (pa_cons (pv 0) (pa_cons (pe_glob rfl m5 (show RelV (.ref _) _ from rfl)) pa_nil))) pa_nil))))))
      (pss_cons (ps_set (i := 1) scKind.nd rfl (Or.inl rfl) (pe_op op_cat (pv 1) (pe_lst (pa_cons (pe_callB call_isX (by rfl) B.isi (by decide +kernel) (pa_cons (pv 0) (pa_cons (pe_glob rfl m6 (show RelV (.ref _) _ from rfl)) pa_nil))) (pa_cons (pe_callB call_isX (by rfl) B.isi (by decide +kernel) (pa_cons (pv 0) (pa_cons (pe_glob rfl m7 (show RelV (.ref _) _ from rfl)) pa_nil))) (pa_cons (pe_callB call_isX (by rfl) B.isi (by decide +kernel) (pa_cons (pv 0) (pa_cons (pe_glob rfl m8 (show RelV (.ref _) _ from rfl)) pa_nil))) pa_nil))))))
      (pss_cons (ps_set (i := 1) scKind.nd rfl (Or.inl rfl) (pe_op op_cat (pv 1) (pe_lst (pa_cons (pe_callB call_isX (by rfl) B.isi (by decide +kernel) (pa_cons (pv 0) (pa_cons (pe_glob rfl m9 (show RelV (.ref _) _ from rfl)) pa_nil))) (pa_cons (pe_callB call_isX (by rfl) B.isi (by decide +kernel) (pa_cons (pv 0) (pa_cons (pe_glob rfl m10 (show RelV (.ref _) _ from rfl)) pa_nil))) (pa_cons (pe_callB call_isX (by rfl) B.isi (by decide +kernel) (pa_cons (pv 0) (pa_cons (pe_glob rfl m11 (show RelV (.ref _) _ from rfl)) pa_nil))) pa_nil))))))
      (pss_cons (ps_if (PW.pt (pw_or (pt_not (pt_val (pe_callB call_isX (by rfl) B.isi (by decide +kernel) (pa_cons (pv 0) (pa_cons (pe_glob rfl mS (show RelV (.ref _) _ from rfl)) pa_nil))))) (pw_or (pt_not (pt_val (pe_callB call_isX (by rfl) B.isi (by decide +kernel) (pa_cons (pv 0) (pa_cons (pe_bltn (v := .ty "ValueError") (u := .type "ValueError") (by rfl) N.ve (by decide +kernel) rfl) pa_nil)))))
        (pw_or1 (pt_cmpR op_ne (pe_bm PySem.F.plainAttrs_list PySem.F.slot_list_count PySem.F.type_list_count mt_countV (pv 1) (pa_cons pe_bl pa_nil)) pe_int (nomark _)))))) (pss_one (ps_ret (pe_tup (pa_cons pe_str (pa_cons pe_int pa_nil))))) pss_nil)
      (pss_cons (ps_set (i := 2) scKind.nd rfl (Or.inl rfl) (pe_bm PySem.F.plainAttrs_list PySem.F.slot_list_index PySem.F.type_list_index mt_index (pv 1) (pa_cons pe_bl pa_nil)))
      (pss_cons (ps_if (pt_cmpR op_lt (pv 2) pe_int (nomark _)) (pss_one (ps_ret (pe_tup (pa_cons (pe_ix ix_list (pe_lst (pa_cons pe_str (pa_cons pe_str (pa_cons pe_str (pa_cons pe_str (pa_cons pe_str (pa_cons pe_str (pa_cons pe_str pa_nil)))))))) (pv 2) (fun _ _ => rfl)) (pa_cons (pe_xp (pv 0)) pa_nil))))) pss_nil)
      (pss_cons ps_never (pss_cons ps_never (pss_cons ps_never (pss_one ps_never)))))))))), ?_⟩
    refine ⟨_, rfl, a, C, some dd, _, _, _, rfl, (Same.refl H).at ha, (fun d2 e2 => by cases e2; exact ⟨_, (Same.refl H).at hdd⟩), N.ex, .own _, k0,
      _, rfl, a, C, some dd, _, _, _, rfl, (Same.refl H).at ha, (fun d2 e2 => by cases e2; exact ⟨_, (Same.refl H).at hdd⟩), N.ex, .own _, k1,
      _, rfl, a, C, some dd, _, _, _, rfl, (Same.refl H).at ha, (fun d2 e2 => by cases e2; exact ⟨_, (Same.refl H).at hdd⟩), N.ex, .own _, k2, (by show 3 ≤ sizeLine; decide), fun p1 n1 => ?_⟩
    have s1 := same_new (o := .lst [.bl (decide (0 = i)), .bl (decide (1 = i)), .bl (decide (2 = i))]) n1
    refine ⟨_, rfl, _, rfl, a, C, some dd, _, _, _, rfl, s1.at ha, (fun d2 e2 => by cases e2; exact ⟨_, s1.at hdd⟩), N.ex, .own _, k3,
      _, rfl, a, C, some dd, _, _, _, rfl, s1.at ha, (fun d2 e2 => by cases e2; exact ⟨_, s1.at hdd⟩), N.ex, .own _, k4,
      _, rfl, a, C, some dd, _, _, _, rfl, s1.at ha, (fun d2 e2 => by cases e2; exact ⟨_, s1.at hdd⟩), N.ex, .own _, k5, (by show 3 ≤ sizeLine; decide), fun q1 m1' => ?_⟩
    have t1 := same_new (o := .lst [.bl (decide (3 = i)), .bl (decide (4 = i)), .bl (decide (5 = i))]) m1'
    refine ⟨p1, q1, _, _, rfl, rfl, t1.at upd_same, upd_same, (by show 3 + 3 ≤ sizeLine; decide), fun p2 n2 => ?_⟩
    have s2 := (s1.trans t1).trans (same_new (o := .lst ([.bl (decide (0 = i)), .bl (decide (1 = i)), .bl (decide (2 = i))] ++ [.bl (decide (3 = i)), .bl (decide (4 = i)), .bl (decide (5 = i))])) n2)
    refine ⟨_, rfl, _, rfl, a, C, some dd, _, _, _, rfl, s2.at ha, (fun d2 e2 => by cases e2; exact ⟨_, s2.at hdd⟩), N.ex, .own _, k6,
      _, rfl, a, C, some dd, _, _, _, rfl, s2.at ha, (fun d2 e2 => by cases e2; exact ⟨_, s2.at hdd⟩), N.ex, .own _, k7,
      _, rfl, a, C, some dd, _, _, _, rfl, s2.at ha, (fun d2 e2 => by cases e2; exact ⟨_, s2.at hdd⟩), N.ex, .own _, k8, (by show 3 ≤ sizeLine; decide), fun q2 m2' => ?_⟩
    have t2 := same_new (o := .lst [.bl (decide (6 = i)), .bl (decide (7 = i)), .bl (decide (8 = i))]) m2'
    refine ⟨p2, q2, _, _, rfl, rfl, t2.at upd_same, upd_same, (by show 6 + 3 ≤ sizeLine; decide), fun p3 n3 => ?_⟩
    have s3 := (s2.trans t2).trans (same_new (o := .lst (([.bl (decide (0 = i)), .bl (decide (1 = i)), .bl (decide (2 = i))] ++ [.bl (decide (3 = i)), .bl (decide (4 = i)), .bl (decide (5 = i))]) ++ [.bl (decide (6 = i)), .bl (decide (7 = i)), .bl (decide (8 = i))])) n3)
    refine ⟨_, rfl, _, rfl, a, C, some dd, _, _, _, rfl, s3.at ha, (fun d2 e2 => by cases e2; exact ⟨_, s3.at hdd⟩), N.ex, .own _, k9,
      _, rfl, a, C, some dd, _, _, _, rfl, s3.at ha, (fun d2 e2 => by cases e2; exact ⟨_, s3.at hdd⟩), N.ex, .own _, k10,
      _, rfl, a, C, some dd, _, _, _, rfl, s3.at ha, (fun d2 e2 => by cases e2; exact ⟨_, s3.at hdd⟩), N.ex, .own _, k11, (by show 3 ≤ sizeLine; decide), fun q3 m3' => ?_⟩
    have t3 := same_new (o := .lst [.bl (decide (9 = i)), .bl (decide (10 = i)), .bl (decide (11 = i))]) m3'
    refine ⟨p3, q3, _, _, rfl, rfl, t3.at upd_same, upd_same, (by show 9 + 3 ≤ sizeLine; decide), fun p4 n4 => ?_⟩
    have s4 := (s3.trans t3).trans (same_new (o := .lst ((([.bl (decide (0 = i)), .bl (decide (1 = i)), .bl (decide (2 = i))] ++ [.bl (decide (3 = i)), .bl (decide (4 = i)), .bl (decide (5 = i))]) ++ [.bl (decide (6 = i)), .bl (decide (7 = i)), .bl (decide (8 = i))]) ++ [.bl (decide (9 = i)), .bl (decide (10 = i)), .bl (decide (11 = i))])) n4)
    have e12 : ((([.bl (decide (0 = i)), .bl (decide (1 = i)), .bl (decide (2 = i))] ++ [.bl (decide (3 = i)), .bl (decide (4 = i)), .bl (decide (5 = i))]) ++ [.bl (decide (6 = i)), .bl (decide (7 = i)), .bl (decide (8 = i))]) ++ [.bl (decide (9 = i)), .bl (decide (10 = i)), .bl (decide (11 = i))]) = bits i := rfl
    refine ⟨_, rfl, a, C, some dd, _, _, _, rfl, s4.at ha, (fun d2 e2 => by cases e2; exact ⟨_, s4.at hdd⟩), N.ex, .own _, kS, _, rfl, iteF ?_⟩
    refine ⟨_, rfl, a, C, some dd, _, _, _, rfl, s4.at ha, (fun d2 e2 => by cases e2; exact ⟨_, s4.at hdd⟩), N.ex, .ty "ValueError", N.kv, _, rfl, iteF ?_⟩
    refine ⟨_, rfl, .inl ⟨rfl, _, SqL.of upd_same⟩, p4, _, _, rfl, rfl, SqL.of upd_same, rfl, ?_, ?_⟩
    · rw [e12]
      exact bits_flat i
    rw [e12]
    have ec : (bits i).countP (fun z => eqV z (.bl true)) = 1 := bits_cnt ⟨i, by omega⟩
    rw [ec]
    refine ⟨rfl, _, rfl, iteF ?_⟩
    refine ⟨_, rfl, .inl ⟨rfl, _, SqL.of upd_same⟩, p4, _, _, i, .bl (decide (i = i)), rfl, rfl, SqL.of upd_same, rfl, bits_flat i, bits_get (by omega), by rw [decide_eq_true rfl]; rfl, fun m z' hm hz => ?_, ?_⟩
    · rw [bits_get (by omega)] at hz
      cases hz
      rw [decide_eq_false (by omega)]
      rfl
    refine ⟨_, rfl, _, _, rfl, rfl, _, rfl, ?_⟩
    rw [decide_eq_true (show (i : Int) < 7 by omega)]
    refine iteT ⟨(by show 7 ≤ sizeLine; decide), fun l nl => ?_⟩
    have s5 := s4.trans (same_new (o := .lst (words7.map V.str)) nl)
    have ew : (words7.map V.str)[i]? = some (.str (words7.getD i "")) := by
      rw [List.getElem?_map, List.getD_eq_getElem?_getD]
      have hl : i < words7.length := hi
      rw [List.getElem?_eq_getElem hl]
      rfl
    refine ⟨_, rfl, l, _, _, _, rfl, rfl, SqL.of upd_same, atI_nat ew, _, rfl, a, C, dd, _, v, rfl, s5.at ha, s5.at hdd, by simp [List.lookup], N.xf, N.noP, (by show 2 ≤ sizeLine; decide), fun t nt => ?_⟩
    exact k t _ (s5.trans (same_new nt)) upd_same
end
end Vk
namespace Vk
open PySem PySem.Spec PyProof.Rows L2
theorem kit_same {K : PySem.W.Frag} {t : Value} : PySem.W.kitOne K t t = some true := by
  unfold PySem.W.kitOne
  rw [if_pos (beq_self_eq_true t)]
theorem kit_sub {K : PySem.W.Frag} {C D : Addr} (h1 : PySem.W.isClsIn K D = true) (h2 : PySem.W.typeIn K (.ref D) = some (.type "type")) (h3 : PySem.W.subIn K (.ref C) (.ref D) = some true) : PySem.W.kitOne K (.ref C) (.ref D) = some true := by
  unfold PySem.W.kitOne
  have e : ((PySem.W.clsIn K D).isSome && PySem.W.typeIn K (.ref D) == some (.type "type")) = true := by
    have h1' : (PySem.W.clsIn K D).isSome = true := h1
    rw [h1', h2]
    rfl
  by_cases z : (Value.ref C == Value.ref D) = true
  · rw [if_pos z]
  · rw [if_neg z]
    show (if ((PySem.W.clsIn K D).isSome && PySem.W.typeIn K (.ref D) == some (.type "type")) = true then PySem.W.subIn K (.ref C) (.ref D) else none) = _
    rw [if_pos e, h3]
theorem kit_ref {K : PySem.W.Frag} {C D : Addr} {b : Bool} (z : (Value.ref C == Value.ref D) = false) (h1 : PySem.W.isClsIn K D = true) (h2 : PySem.W.typeIn K (.ref D) = some (.type "type")) (h3 : PySem.W.subIn K (.ref C) (.ref D) = some b) : PySem.W.kitOne K (.ref C) (.ref D) = some b := by
  unfold PySem.W.kitOne
  have e : ((PySem.W.clsIn K D).isSome && PySem.W.typeIn K (.ref D) == some (.type "type")) = true := by
    have h1' : (PySem.W.clsIn K D).isSome = true := h1
    rw [h1', h2]
    rfl
  rw [if_neg (by rw [z]; exact Bool.false_ne_true)]
  show (if ((PySem.W.clsIn K D).isSome && PySem.W.typeIn K (.ref D) == some (.type "type")) = true then PySem.W.subIn K (.ref C) (.ref D) else none) = _
  rw [if_pos e, h3]
theorem kit_ve {K : PySem.W.Frag} {C : Addr} (h3 : PySem.W.subIn K (.ref C) (.type "ValueError") = some true) : PySem.W.kitOne K (.ref C) (.type "ValueError") = some true := by
  unfold PySem.W.kitOne
  have e : PySem.W.kitMeta "ValueError" = true := by decide +kernel
  rw [if_neg (by intro z; cases z)]
  show (if PySem.W.kitMeta "ValueError" = true then PySem.W.subIn K (.ref C) (.type "ValueError") else none) = _
  rw [if_pos e, h3]
end Vk
namespace Vk
open PySem PySem.Spec PyProof.Rows L2 GxR
abbrev sLenInit : Stmt := inClass (top 4) 0
abbrev sOrdInit : Stmt := inClass (top 8) 0
/-- the place of the first fault of lengths for so many -/
def badLen (n : Int) : Nat → List PyData → Option Nat
  | _, [] => none
  | i, d :: r => if n ≤ (i : Int) ∨ integerD 1 d = false then some i else badLen n (i + 1) r
def lenPlace (n : Int) : PyData → Option Int
  | .tuple ds => match badLen n 0 ds with
    | some i => some (i : Int)
    | none => if (ds.length : Int) < n then some (ds.length : Int) else none
  | _ => some 0
def robPlace (d : PyData) : Option Int := match d with
  | .tuple ds => lenPlace ds.length d
  | _ => some 0
theorem badLen_ints {n : Int} : ∀ {ls : List Int} {i : Nat}, (∀ v ∈ ls, 1 ≤ v) → (i : Int) + ls.length ≤ n → badLen n i (intsD ls) = none
  | [], _, _, _ => rfl
  | v :: r, i, h, hn => by
    rw [List.length_cons] at hn
    show (if n ≤ (i : Int) ∨ integerD 1 (.int v) = false then some i else badLen n (i + 1) (intsD r)) = none
    have hv := h v (by simp)
    rw [if_neg (fun z => by
      rcases z with z | z
      · omega
      · exact absurd (decide_eq_true hv) (by rw [show decide (1 ≤ v) = integerD 1 (.int v) from rfl, z]; decide))]
    exact badLen_ints (fun u hu => h u (List.mem_cons_of_mem _ hu)) (by push_cast; omega)
theorem badLen_none {n : Int} : ∀ {ds : List PyData} {i : Nat}, badLen n i ds = none → ∃ ls, ds = intsD ls ∧ ∀ v ∈ ls, 1 ≤ v
  | [], _, _ => ⟨[], rfl, fun _ h => absurd h (by simp)⟩
  | d :: r, i, h => by
    replace h : (if n ≤ (i : Int) ∨ integerD 1 d = false then some i else badLen n (i + 1) r) = none := h
    split at h
    · cases h
    · rename_i hz
      obtain ⟨ls, rfl, a⟩ := badLen_none h
      cases d with
      | int v =>
        refine ⟨v :: ls, rfl, fun u hu => ?_⟩
        rcases List.mem_cons.mp hu with rfl | hu
        · refine Classical.byContradiction fun z => hz (.inr (decide_eq_false z))
        · exact a u hu
      | none => exact absurd (.inr rfl) hz
      | bool _ => exact absurd (.inr rfl) hz
      | str _ => exact absurd (.inr rfl) hz
      | list _ => exact absurd (.inr rfl) hz
      | tuple _ => exact absurd (.inr rfl) hz
      | dict _ => exact absurd (.inr rfl) hz
theorem len_fine {n : Int} {ls : List Int} (h : ∀ v ∈ ls, 1 ≤ v) (e : (ls.length : Int) = n) : lenPlace n (.tuple (intsD ls)) = none := by
  have l : (intsD ls).length = ls.length := List.length_map ..
  show (match badLen n 0 (intsD ls) with | some i => some (i : Int) | none => if ((intsD ls).length : Int) < n then some ((intsD ls).length : Int) else none) = none
  rw [badLen_ints h (by omega)]
  dsimp only
  rw [l, if_neg (by omega)]
theorem rob_fine {ls : List Int} (h : ∀ v ∈ ls, 1 ≤ v) : robPlace (.tuple (intsD ls)) = none := len_fine h (by rw [show (intsD ls).length = ls.length from List.length_map ..])
theorem rob_of {d : PyData} (h : robPlace d = none) : ∃ ls, d = .tuple (intsD ls) ∧ ∀ v ∈ ls, 1 ≤ v := by
  cases d with
  | tuple ds =>
    replace h : (match badLen ds.length 0 ds with | some i => some (i : Int) | none => if (ds.length : Int) < ds.length then some (ds.length : Int) else none) = none := h
    cases e : badLen ds.length 0 ds with
    | some i =>
      rw [e] at h
      cases h
    | none =>
      obtain ⟨ls, rfl, a⟩ := badLen_none e
      exact ⟨ls, rfl, a⟩
  | none => cases h
  | bool _ => cases h
  | int _ => cases h
  | str _ => cases h
  | list _ => cases h
  | dict _ => cases h
section
variable {P : Program} {w : World} {K : PySem.W.Frag} {mg : Str → Option Value} {base : Heap}
theorem scLenInit : FnScope ["self", "place"] ["self", "place"] (defScope sLenInit) := ⟨rfl, rfl, rfl, by decide +kernel, rfl, by decide +kernel, by decide +kernel⟩
theorem ok_lenInit {C fI : Addr} {fd : FuncData} (F : Fun K "__init__" "NoLengths.__init__" sLenInit fI fd) (T : OexC K C) (no : PySem.W.findIn K (.ref C) "place" = some none) : FnOk P w K mg base CX0 1 fI fd ["self", "place"] (spIni C "place") := by
  refine F.ok scLenInit (fun vs H Q E h => ?_) (fun cdv A outer s H vs Q E hr h => ?_)
  · obtain ⟨a, v, rfl, _⟩ := h
    rfl
  · obtain ⟨a, v, rfl, ha, k⟩ := h
    refine ⟨_, pss_one (ps_ost (pv 0) (pv 1)), ?_⟩
    exact ⟨_, rfl, _, rfl, a, C, rfl, T, no, .inl ⟨ha, fun dx n1 n2 => k dx n1 n2⟩⟩
theorem erc_len {C : Addr} (g : mg "NoLengths" = some (.ref C)) (T : OexC K C) (no : PySem.W.findIn K (.ref C) "place" = some none) (N : Nit K "NoLengths" "NoLengths.__init__" "place" sLenInit C) : ErC P w K mg base "NoLengths" "place" C := by
  obtain ⟨fI, fd, h1, h2, h3, h4⟩ := N.ex
  exact ⟨g, T, fI, fd, h1, h2, h4, ok_lenInit h3 T no⟩
theorem scOrdInit : FnScope ["self", "place"] ["self", "place"] (defScope sOrdInit) := ⟨rfl, rfl, rfl, by decide +kernel, rfl, by decide +kernel, by decide +kernel⟩
theorem ok_ordInit {C fI : Addr} {fd : FuncData} (F : Fun K "__init__" "NoOrder.__init__" sOrdInit fI fd) (T : OexC K C) (no : PySem.W.findIn K (.ref C) "place" = some none) : FnOk P w K mg base CX0 1 fI fd ["self", "place"] (spIni C "place") := by
  refine F.ok scOrdInit (fun vs H Q E h => ?_) (fun cdv A outer s H vs Q E hr h => ?_)
  · obtain ⟨a, v, rfl, _⟩ := h
    rfl
  · obtain ⟨a, v, rfl, ha, k⟩ := h
    refine ⟨_, pss_one (ps_ost (pv 0) (pv 1)), ?_⟩
    exact ⟨_, rfl, _, rfl, a, C, rfl, T, no, .inl ⟨ha, fun dx n1 n2 => k dx n1 n2⟩⟩
theorem erc_ord {C : Addr} (g : mg "NoOrder" = some (.ref C)) (T : OexC K C) (no : PySem.W.findIn K (.ref C) "place" = some none) (N : Nit K "NoOrder" "NoOrder.__init__" "place" sOrdInit C) : ErC P w K mg base "NoOrder" "place" C := by
  obtain ⟨fI, fd, h1, h2, h3, h4⟩ := N.ex
  exact ⟨g, T, fI, fd, h1, h2, h4, ok_ordInit h3 T no⟩
def spCheckLen (K : PySem.W.Frag) (C : Addr) : Sp := fun vs H Q E => ∃ (v : V) (d : PyData) (n : Int), vs = [v, .int n] ∧ Dp K H v d ∧ (lenPlace n d = none → ∀ H', Same H H' → Q .non H') ∧
  (∀ p, lenPlace n d = some p → ∀ (dx : Addr) (H' : Hp), Same H H' → H' dx = some (.xd [(("place" : Str), .int p)]) → E (.ref C) (some dx) H')
theorem scCheckLen : FnScope ["lengths", "many", "place", "length"] ["lengths", "many"] (defScope sCheckLen) := ⟨rfl, rfl, rfl, by decide +kernel, rfl, by decide +kernel, by decide +kernel⟩
theorem ok_checkLen {C : Addr} (D : Df K mg "check_lengths" sCheckLen ["lengths", "many"]) (B : Blt mg) (ER : ErC P w K mg base "NoLengths" "place" C) (I : Cl P w K mg base CX0 1 "is_integer" ["value", "least"] (spInteger K)) : Cl P w K mg base (L2.CX P w) 3 "check_lengths" ["lengths", "many"] (spCheckLen K C) := by
  refine clX D scCheckLen (fun vs H Q E h => ?_) (fun f cdv A outer s H vs Q E hr h => ?_)
  · obtain ⟨v, d, n, rfl, _⟩ := h
    rfl
  · obtain ⟨v, d, n, rfl, hd, kN, kE⟩ := h
    refine ⟨_, pss_cons (ps_if (pt_not (pt_val (pe_callB call_isi (by rfl) B.isi (by decide +kernel) (pa_cons (pv 0) (pa_cons (pe_bltn (v := .ty "tuple") (u := .type "tuple") (by rfl) B.tuple (by decide +kernel) rfl) pa_nil))))) (pss_one (ps_raiseE ER rfl hr (by decide) (takes_of rfl rfl rfl rfl) pe_int)) pss_nil)
      (pss_cons (ps_for (passes_of rfl) rfl (pi_enumT B.enum (pa_cons (pv 0) pa_nil)) (pg_tup rfl (pgs_cons (pg_name (i := 2) scCheckLen.nd rfl (.inl rfl)) (pgs_cons (pg_name (i := 3) scCheckLen.nd rfl (.inl rfl)) pgs_nil)))
        (pss_one (ps_if (PW.pt (pw_or (pt_cmpR op_ge (pv 2) (pv 1) (nomark _)) (pw_or1 (pt_not (pt_val (pc I hr (by decide) (pa_cons (pv 3) (pa_cons pe_int pa_nil)))))))) (pss_one (ps_raiseE ER rfl hr (by decide) (takes_of rfl rfl rfl rfl) (pv 2))) pss_nil)))
      (pss_one (ps_if (pt_cmpR op_lt (pe_callB call_len_seq (by rfl) B.len PySem.boot_len (pa_cons (pv 0) pa_nil)) (pv 1) (nomark _)) (pss_one (ps_raiseE ER rfl hr (by decide) (takes_of rfl rfl rfl rfl) (pe_callB call_len_seq (by rfl) B.len PySem.boot_len (pa_cons (pv 0) pa_nil)))) pss_nil))), ?_⟩
    refine ⟨_, rfl, v, _, _, _, _, rfl, .ty "tuple", dp_ty hd, kit_tup hd, _, rfl, ?_⟩
    cases htup : isTupD d with
    | false =>
      have e2 : lenPlace n d = some 0 := by
        cases d with
        | tuple ds => cases htup
        | _ => rfl
      exact iteT (raise_go fun dx H2 s1 _ hx => kE 0 e2 dx H2 s1 hx)
    | true =>
      obtain ⟨ds, rfl⟩ : ∃ ds, d = .tuple ds := by
        cases d with
        | tuple ls => exact ⟨ls, rfl⟩
        | _ => cases htup
      obtain ⟨pj, xs, rfl, qj, rj⟩ := dp_tuple hd
      have xl := dps_len rj
      have lp : lenPlace n (.tuple ds) = match badLen n 0 ds with
        | some i => some (i : Int)
        | none => if (ds.length : Int) < n then some (ds.length : Int) else none := rfl
      refine iteF ⟨_, rfl, pj, xs, rfl, qj, for_it (walk_enumT (K := K) (a := pj) (xs := xs)) (fun i σ G => ∃ (u2 u3 : Option V), σ = [some (.ref pj), some (.int n), u2, u3] ∧ Same H G ∧ badLen n 0 ds = badLen n i (ds.drop i))
        ⟨none, none, rfl, Same.refl H, rfl⟩ (fun i σ G _ ⟨_, _, _, s1, _⟩ => same_seqT s1 qj) ?_ ?_⟩
      · rintro i v1 σ G G2 hi ⟨u2, u3, rfl, s1, eb⟩ ⟨TT, x1, y1, rfl, nT, rfl, ex, ey⟩
        cases ex
        obtain ⟨d1, hd1, dp1⟩ := dps_getV rj ey
        have s2 := s1.trans (same_new (o := .tup [V.int (i : Nat), y1]) nT)
        have dr : ds.drop i = d1 :: ds.drop (i + 1) := by
          obtain ⟨h1, h2⟩ := List.getElem?_eq_some_iff.mp hd1
          rw [List.drop_eq_getElem_cons h1, h2]
        rw [dr] at eb
        replace eb : badLen n 0 ds = if n ≤ (i : Int) ∨ integerD 1 d1 = false then some i else badLen n (i + 1) (ds.drop (i + 1)) := eb
        have stop : (n ≤ (i : Int) ∨ integerD 1 d1 = false) → lenPlace n (.tuple ds) = some (i : Int) := fun z => by rw [lp, eb, if_pos z]
        refine ⟨TT, _, rfl, SqT.of upd_same, rfl, _, _, rfl, _, _, rfl, rfl, ?_⟩
        refine ⟨_, rfl, _, rfl, _, _, rfl, rfl, _, rfl, ?_⟩
        refine ite2 (fun hz => ?_) (fun hz => ?_)
        · have z : n ≤ (i : Int) := of_decide_eq_true hz
          refine iteT ⟨_, rfl, ?_⟩
          exact raise_go fun dx H5 s5 _ hx => kE i (stop (.inl z)) dx H5 (s2.trans s5) hx
        · have z : ¬ n ≤ (i : Int) := fun e => hz (decide_eq_true e)
          refine ⟨_, rfl, y1, d1, 1, rfl, dp_same s2 dp1, _, rfl, ?_⟩
          cases hb : integerD 1 d1 with
          | false =>
            refine iteT ⟨_, rfl, ?_⟩
            exact raise_go fun dx H5 s5 _ hx => kE i (stop (.inr hb)) dx H5 (s2.trans s5) hx
          | true =>
            rw [if_neg (fun e => by
              rcases e with e | e
              · exact z e
              · rw [hb] at e
                cases e)] at eb
            exact iteF ⟨_, _, rfl, s2, eb⟩
      · rintro σ G ⟨u2, u3, rfl, s1, eb⟩
        rw [xl, List.drop_length] at eb
        replace eb : badLen n 0 ds = none := eb
        have qG := same_seqT s1 qj
        refine ⟨_, rfl, pj, xs, rfl, .inr qG, _, rfl, _, _, rfl, rfl, _, rfl, ?_⟩
        rw [xl]
        refine ite2 (fun hz => ?_) (fun hz => ?_)
        · have z : (ds.length : Int) < n := of_decide_eq_true hz
          refine ⟨_, rfl, pj, xs, rfl, .inr qG, ?_⟩
          rw [xl]
          exact raise_go fun dx H5 s5 _ hx => kE ds.length (by rw [lp, eb]; exact if_pos z) dx H5 (s1.trans s5) hx
        · have z : ¬ (ds.length : Int) < n := fun e => hz (decide_eq_true e)
          exact kN (by rw [lp, eb]; exact if_neg z) G s1
def spCheckRob (K : PySem.W.Frag) (C : Addr) : Sp := fun vs H Q E => ∃ (v : V) (d : PyData), vs = [v] ∧ Dp K H v d ∧ (robPlace d = none → ∀ H', Same H H' → Q .non H') ∧
  (∀ p, robPlace d = some p → ∀ (dx : Addr) (H' : Hp), Same H H' → H' dx = some (.xd [(("place" : Str), .int p)]) → E (.ref C) (some dx) H')
theorem scCheckRob : FnScope ["lengths"] ["lengths"] (defScope sCheckRob) := ⟨rfl, rfl, rfl, by decide +kernel, rfl, by decide +kernel, by decide +kernel⟩
theorem ok_checkRob {C : Addr} (D : Df K mg "check_robin" sCheckRob ["lengths"]) (B : Blt mg) (ER : ErC P w K mg base "NoLengths" "place" C) (CL : Cl P w K mg base (L2.CX P w) 3 "check_lengths" ["lengths", "many"] (spCheckLen K C)) : Cl P w K mg base (L2.CX P w) 4 "check_robin" ["lengths"] (spCheckRob K C) := by
  refine clX D scCheckRob (fun vs H Q E h => ?_) (fun f cdv A outer s H vs Q E hr h => ?_)
  · obtain ⟨v, d, rfl, _⟩ := h
    rfl
  · obtain ⟨v, d, rfl, hd, kN, kE⟩ := h
    obtain ⟨fL, fdL, mL, kpL, bL, FL⟩ := CL.ex
    refine ⟨_, pss_cons (ps_if (pt_not (pt_val (pe_callB call_isi (by rfl) B.isi (by decide +kernel) (pa_cons (pv 0) (pa_cons (pe_bltn (v := .ty "tuple") (u := .type "tuple") (by rfl) B.tuple (by decide +kernel) rfl) pa_nil))))) (pss_one (ps_raiseE ER rfl hr (by decide) (takes_of rfl rfl rfl rfl) pe_int)) pss_nil)
      (pss_one (ps_expr (pe_call (E := E) FL (hr.mono (by decide)) rfl mL kpL bL .nil (passes_call (W := fun cls d _ H => E cls d H) (takes_of rfl rfl rfl rfl) (fun _ _ _ _ h => h)) (pa_cons (pv 0) (pa_cons (pe_callB call_len_seq (by rfl) B.len PySem.boot_len (pa_cons (pv 0) pa_nil)) pa_nil))))), ?_⟩
    refine ⟨_, rfl, v, _, _, _, _, rfl, .ty "tuple", dp_ty hd, kit_tup hd, _, rfl, ?_⟩
    cases htup : isTupD d with
    | false =>
      have e2 : robPlace d = some 0 := by
        cases d with
        | tuple ds => cases htup
        | _ => rfl
      exact iteT (raise_go fun dx H2 s1 _ hx => kE 0 e2 dx H2 s1 hx)
    | true =>
      obtain ⟨ds, rfl⟩ : ∃ ds, d = .tuple ds := by
        cases d with
        | tuple ls => exact ⟨ls, rfl⟩
        | _ => cases htup
      have hd' := hd
      obtain ⟨pj, xs, rfl, qj, rj⟩ := dp_tuple hd
      have xl := dps_len rj
      refine iteF ⟨_, rfl, _, rfl, pj, xs, rfl, .inr qj, ?_⟩
      rw [xl]
      exact ⟨.ref pj, .tuple ds, ds.length, rfl, hd', fun e H' s' => kN e H' s', fun p e dx H' s' hx => kE p e dx H' s' hx⟩
def spCheckOrd (K : PySem.W.Frag) (C : Addr) : Sp := fun vs H Q E => ∃ (v : V) (d : PyData), vs = [v] ∧ Dp K H v d ∧ (orderPlace d = none → ∀ H', Same H H' → Q .non H') ∧
  (∀ p, orderPlace d = some p → ∀ (dx : Addr) (H' : Hp), Same H H' → H' dx = some (.xd [(("place" : Str), .int p)]) → E (.ref C) (some dx) H')
theorem scCheckOrd : FnScope ["order", "place", "index"] ["order"] (defScope sCheckOrd) := ⟨rfl, rfl, rfl, by decide +kernel, rfl, by decide +kernel, by decide +kernel⟩
theorem inV_ints {v : Int} : ∀ ns : List Int, inV (.int v) (ns.map V.int) = decide (v ∈ ns)
  | [] => by simp [inV]
  | n :: r => by
    have e : inV (.int v) ((n :: r).map V.int) = (eqV (.int n) (.int v) || inV (.int v) (r.map V.int)) := rfl
    rw [e, inV_ints r]
    have e2 : eqV (.int n) (.int v) = decide (n = v) := by
      unfold eqV
      rfl
    rw [e2]
    by_cases z : v = n
    · subst z
      simp
    · have z2 : ¬ n = v := fun q => z q.symm
      simp [z, z2]
theorem flat_ints (ns : List Int) : (ns.map V.int).all flatV = true := by
  rw [List.all_eq_true]
  intro x hx
  obtain ⟨i, _, rfl⟩ := List.mem_map.mp hx
  rfl
/-- what is left of the walk, with the integers so far -/
theorem bad_step {n : Int} {pre : List Int} {i : Nat} {d : PyData} {r : List PyData} {v : Int} (e : d = .int v) : badOrd n pre i (d :: r) = if 0 ≤ v ∧ v < n ∧ v ∉ pre then badOrd n (pre ++ [v]) (i + 1) r else some i := by
  subst e
  rfl
theorem bad_other {n : Int} {pre : List Int} {i : Nat} {d : PyData} {r : List PyData} (h : integerD 0 d = false) : badOrd n pre i (d :: r) = some i := by
  cases d with
  | int v =>
    show (if 0 ≤ v ∧ v < n ∧ v ∉ pre then _ else some i) = some i
    exact if_neg fun z => absurd (decide_eq_true z.1) (by rw [show decide (0 ≤ v) = integerD 0 (.int v) from rfl, h]; decide)
  | none => rfl
  | bool _ => rfl
  | str _ => rfl
  | list _ => rfl
  | tuple _ => rfl
  | dict _ => rfl
theorem int_of0 {m : Int} {q : PyData} (z : integerD m q = true) : ∃ i, q = .int i ∧ m ≤ i := by
  cases q with
  | int i => exact ⟨i, rfl, of_decide_eq_true z⟩
  | _ => cases z
theorem ok_checkOrd {C : Addr} (D : Df K mg "check_order" sCheckOrd ["order"]) (B : Blt mg) (ER : ErC P w K mg base "NoOrder" "place" C) (I : Cl P w K mg base CX0 1 "is_integer" ["value", "least"] (spInteger K)) : Cl P w K mg base (L2.CX P w) 3 "check_order" ["order"] (spCheckOrd K C) := by
  refine clX D scCheckOrd (fun vs H Q E h => ?_) (fun f cdv A outer s H vs Q E hr h => ?_)
  · obtain ⟨v, d, rfl, _⟩ := h
    rfl
  · obtain ⟨v, d, rfl, hd, kN, kE⟩ := h
    refine ⟨_, pss_cons (ps_if (pt_not (pt_val (pe_callB call_isi (by rfl) B.isi (by decide +kernel) (pa_cons (pv 0) (pa_cons (pe_bltn (v := .ty "tuple") (u := .type "tuple") (by rfl) B.tuple (by decide +kernel) rfl) pa_nil))))) (pss_one (ps_raiseE ER rfl hr (by decide) (takes_of rfl rfl rfl rfl) pe_int)) pss_nil)
      (pss_one (ps_for (passes_of rfl) rfl (pi_enumT B.enum (pa_cons (pv 0) pa_nil)) (pg_tup rfl (pgs_cons (pg_name (i := 1) scCheckOrd.nd rfl (.inl rfl)) (pgs_cons (pg_name (i := 2) scCheckOrd.nd rfl (.inl rfl)) pgs_nil)))
        (pss_one (ps_if (PW.pt (pw_or (pt_not (pt_val (pc I hr (by decide) (pa_cons (pv 2) (pa_cons pe_int pa_nil))))) (pw_or (pt_cmpR op_ge (pv 2) (pe_callB call_len_seq (by rfl) B.len PySem.boot_len (pa_cons (pv 0) pa_nil)) (nomark _)) (pw_or1 (pt_cmpR op_in_seq (pv 2) (pe_slice sl_tupA (pv 0) po_none (po_some (pv 1))) (by rfl))))))
          (pss_one (ps_raiseE ER rfl hr (by decide) (takes_of rfl rfl rfl rfl) (pv 1))) pss_nil)))), ?_⟩
    refine ⟨_, rfl, v, _, _, _, _, rfl, .ty "tuple", dp_ty hd, kit_tup hd, _, rfl, ?_⟩
    cases htup : isTupD d with
    | false =>
      have e2 : orderPlace d = some 0 := by
        cases d with
        | tuple ds => cases htup
        | _ => rfl
      exact iteT (raise_go fun dx H2 s1 _ hx => kE 0 e2 dx H2 s1 hx)
    | true =>
      obtain ⟨ds, rfl⟩ : ∃ ds, d = .tuple ds := by
        cases d with
        | tuple ls => exact ⟨ls, rfl⟩
        | _ => cases htup
      obtain ⟨pj, xs, rfl, qj, rj⟩ := dp_tuple hd
      have xl := dps_len rj
      have lp : orderPlace (.tuple ds) = match badOrd ds.length [] 0 ds with
        | some i => some (i : Int)
        | none => none := rfl
      refine iteF ⟨_, rfl, pj, xs, rfl, qj, for_it (walk_enumT (K := K) (a := pj) (xs := xs)) (fun i σ G => ∃ (u2 u3 : Option V) (pre : List Int), σ = [some (.ref pj), u2, u3] ∧ Same H G ∧ ds.take i = intsD pre ∧ badOrd ds.length [] 0 ds = badOrd ds.length pre i (ds.drop i))
        ⟨none, none, [], rfl, Same.refl H, rfl, rfl⟩ (fun i σ G _ ⟨_, _, _, _, s1, _⟩ => same_seqT s1 qj) ?_ ?_⟩
      · rintro i v1 σ G G2 hi ⟨u2, u3, pre, rfl, s1, ep, eb⟩ ⟨TT, x1, y1, rfl, nT, rfl, ex, ey⟩
        cases ex
        obtain ⟨d1, hd1, dp1⟩ := dps_getV rj ey
        have s2 := s1.trans (same_new (o := .tup [V.int (i : Nat), y1]) nT)
        have dr : ds.drop i = d1 :: ds.drop (i + 1) := by
          obtain ⟨h1, h2⟩ := List.getElem?_eq_some_iff.mp hd1
          rw [List.drop_eq_getElem_cons h1, h2]
        rw [dr] at eb
        have stop : badOrd ds.length pre i (d1 :: ds.drop (i + 1)) = some i → orderPlace (.tuple ds) = some (i : Int) := fun z => by rw [lp, eb, z]
        refine ⟨TT, _, rfl, SqT.of upd_same, rfl, _, _, rfl, _, _, rfl, rfl, ?_⟩
        refine ⟨_, rfl, y1, d1, 0, rfl, dp_same s2 dp1, _, rfl, ?_⟩
        cases hb : integerD 0 d1 with
        | false =>
          refine iteT (iteT ⟨_, rfl, ?_⟩)
          exact raise_go fun dx H5 s5 _ hx => kE i (stop (bad_other hb)) dx H5 (s2.trans s5) hx
        | true =>
          obtain ⟨iv, rfl, iv0⟩ := int_of0 hb
          have e1 := dp_int dp1
          subst e1
          rw [bad_step rfl] at eb stop
          refine iteF ⟨_, rfl, _, rfl, pj, xs, rfl, .inr (same_seqT s2 qj), _, _, rfl, rfl, _, rfl, ?_⟩
          rw [xl]
          refine ite2 (fun hz => ?_) (fun hz => ?_)
          · have z : (ds.length : Int) ≤ iv := of_decide_eq_true hz
            refine iteT ⟨_, rfl, ?_⟩
            exact raise_go fun dx H5 s5 _ hx => kE i (stop (if_neg (by omega))) dx H5 (s2.trans s5) hx
          have z : iv < (ds.length : Int) := Int.not_le.mp fun e => hz (decide_eq_true e)
          refine ⟨_, rfl, _, rfl, _, rfl, _, rfl, slice_go0 (dp_same s2 hd) (fun z3 G3 s3 d3 => ?_)⟩
          have il : i ≤ ds.length := by omega
          replace d3 : Dp K G3 z3 (.tuple ((ds.drop 0).take (HT.sIx ds.length ds.length (some (i : Int)) - 0))) := d3
          rw [sl_to il, List.drop_zero, Nat.sub_zero, ep] at d3
          obtain ⟨p3, ys, rfl, q3, r3⟩ := dp_tuple d3
          have e3 := ints_dps r3
          subst e3
          refine ⟨p3, _, rfl, .inr q3, rfl, flat_ints pre, _, rfl, ?_⟩
          rw [inV_ints]
          refine ite2 (fun hm => ?_) (fun hm => ?_)
          · have hm := of_decide_eq_true hm
            refine ⟨_, rfl, ?_⟩
            exact raise_go fun dx H5 s5 _ hx => kE i (stop (if_neg (fun z => z.2.2 hm))) dx H5 ((s2.trans s3).trans s5) hx
          · have hm : iv ∉ pre := fun e => hm (decide_eq_true e)
            rw [if_pos ⟨iv0, z, hm⟩] at eb
            refine ⟨_, _, pre ++ [iv], rfl, s2.trans s3, ?_, eb⟩
            rw [List.take_add_one, hd1, ep]
            unfold intsD
            rw [List.map_append]
            rfl
      · rintro σ G ⟨u2, u3, pre, rfl, s1, ep, eb⟩
        rw [xl, List.drop_length] at eb
        replace eb : badOrd ds.length [] 0 ds = none := eb
        exact kN (by rw [lp, eb]) G s1
end
end Vk
namespace Vk
open PySem PySem.Spec PyProof.Rows L2 GxR
/-- a list of new pairs of integers -/
def PrL (H : Hp) (xs : List V) (ps : List (Int × Int)) : Prop := xs.length = ps.length ∧ ∀ (j : Nat) (x : V) (p : Int × Int), xs[j]? = some x → ps[j]? = some p → ∃ t, x = .ref t ∧ H t = some (.tup [.int p.1, .int p.2])
theorem PrL.same {H H' : Hp} {xs : List V} {ps : List (Int × Int)} (h : PrL H xs ps) (s : Same H H') : PrL H' xs ps := ⟨h.1, fun j x p h1 h2 => by
  obtain ⟨t, e, q⟩ := h.2 j x p h1 h2
  exact ⟨t, e, s.at q⟩⟩
theorem PrL.snoc {H : Hp} {xs : List V} {ps : List (Int × Int)} {t : Addr} {p : Int × Int} (h : PrL H xs ps) (ht : H t = some (.tup [.int p.1, .int p.2])) : PrL H (xs ++ [.ref t]) (ps ++ [p]) := by
  refine ⟨by rw [List.length_append, List.length_append, h.1]; rfl, fun j x q h1 h2 => ?_⟩
  by_cases z : j < xs.length
  · rw [List.getElem?_append_left z] at h1
    rw [List.getElem?_append_left (by rw [← h.1]; exact z)] at h2
    exact h.2 j x q h1 h2
  · have lt := (List.getElem?_eq_some_iff.mp h1).1
    rw [List.length_append, List.length_singleton] at lt
    have ej : j = xs.length := by omega
    subst ej
    rw [List.getElem?_append_right (Nat.le_refl _), Nat.sub_self] at h1
    rw [h.1, List.getElem?_append_right (Nat.le_refl _), Nat.sub_self] at h2
    cases h1
    cases h2
    exact ⟨t, rfl, ht⟩
/-- the pair that stands at an address -/
def prK (H : Hp) : V → Int × Int
  | .ref t => match H t with
    | some (.tup [.int i, .int j]) => (i, j)
    | _ => (0, 0)
  | _ => (0, 0)
theorem prK_at {H : Hp} {t : Addr} {p : Int × Int} (h : H t = some (.tup [.int p.1, .int p.2])) : prK H (.ref t) = p := by
  unfold prK
  dsimp only
  rw [h]
theorem PrL.keys {H : Hp} {xs : List V} {ps : List (Int × Int)} (h : PrL H xs ps) : xs.map (prK H) = ps := by
  refine List.ext_getElem? fun j => ?_
  rw [List.getElem?_map]
  by_cases z : j < xs.length
  · have h1 : xs[j]? = some xs[j] := List.getElem?_eq_getElem z
    have h2 : ps[j]? = some (ps[j]'(by rw [← h.1]; exact z)) := List.getElem?_eq_getElem (by rw [← h.1]; exact z)
    obtain ⟨t, e, q⟩ := h.2 j _ _ h1 h2
    rw [h1, h2, e]
    exact congrArg some (prK_at q)
  · rw [List.getElem?_eq_none (by omega), List.getElem?_eq_none (by rw [← h.1]; omega)]
    rfl
theorem PrL.all {H : Hp} {xs : List V} {ps : List (Int × Int)} (h : PrL H xs ps) : ∀ x ∈ xs, ∃ t, x = V.ref t ∧ H t = some (.tup [.int (prK H x).1, .int (prK H x).2]) := by
  intro x hx
  obtain ⟨j, hj, e⟩ := List.mem_iff_getElem.mp hx
  have h2 : ps[j]? = some (ps[j]'(by rw [← h.1]; exact hj)) := List.getElem?_eq_getElem (by rw [← h.1]; exact hj)
  obtain ⟨t, e2, q⟩ := h.2 j x _ (by rw [List.getElem?_eq_getElem hj, e]) h2
  refine ⟨t, e2, ?_⟩
  rw [e2, prK_at q]
  exact q
/-- lengths with their indexes -/
def idxP (ls : List Int) : List (Int × Int) := (List.range ls.length).map fun (i : Nat) => (ls.getD i 0, (i : Int))
theorem idx_take {ls : List Int} {m : Nat} {x : Int} (h : ls[m]? = some x) : (idxP ls).take (m + 1) = (idxP ls).take m ++ [(x, (m : Int))] := by
  have hm : m < ls.length := (List.getElem?_eq_some_iff.mp h).1
  have e : (idxP ls)[m]? = some (x, (m : Int)) := by
    unfold idxP
    rw [List.getElem?_map, List.getElem?_range hm]
    show some (ls.getD m 0, (m : Int)) = _
    rw [List.getD_eq_getElem?_getD, h]
    rfl
  rw [List.take_add_one, e]
  rfl
theorem idx_len {ls : List Int} : (idxP ls).length = ls.length := by
  unfold idxP
  rw [List.length_map, List.length_range]
/-- what stands sorted is the order -/
theorem srt_ord {ls : List Int} {ks : List (Int × Int)} (hs : ks.Pairwise fun x y => SrtO.lexB y x = false) (hp : ks.Perm (idxP ls)) : IsOrd (ks.map (·.2)) ∧ (ks.map (·.2)).length = ls.length ∧ Chn ls (ks.map (·.2)) (ks.map (·.2)).length := by
  have kl : ks.length = ls.length := by rw [hp.length_eq, idx_len]
  have ml : (ks.map (·.2)).length = ls.length := by rw [List.length_map, kl]
  have ep : (idxP ls).map (·.2) = (List.range ls.length).map fun (i : Nat) => (i : Int) := by
    unfold idxP
    rw [List.map_map]
    rfl
  have hq : (ks.map (·.2)).Perm ((List.range ls.length).map fun (i : Nat) => (i : Int)) := by
    rw [← ep]
    exact hp.map _
  have nd : (ks.map (·.2)).Nodup := by
    refine hq.nodup_iff.mpr ?_
    refine List.pairwise_map.mpr ?_
    exact (List.nodup_range (n := ls.length)).imp fun h e => h (Int.ofNat.inj e)
  have ord : IsOrd (ks.map (·.2)) := ⟨fun v hv => by
    obtain ⟨i, hi, rfl⟩ := List.mem_map.mp (hq.mem_iff.mp hv)
    have := List.mem_range.mp hi
    rw [ml]
    omega, nd⟩
  refine ⟨ord, ml, fun i hi => ?_⟩
  rw [ml] at hi
  have h1 : ks[i]? = some (ks[i]'(by omega)) := List.getElem?_eq_getElem (by omega)
  have h2 : ks[i + 1]? = some (ks[i + 1]'(by omega)) := List.getElem?_eq_getElem (by omega)
  have fst : ∀ p ∈ ks, p.1 = lv ls p.2 := fun p hm => by
    obtain ⟨j, hj, rfl⟩ := List.mem_map.mp (hp.mem_iff.mp hm)
    rfl
  have o1 : ov (ks.map (·.2)) i = (ks[i]'(by omega)).2 := by
    unfold ov
    rw [List.getD_eq_getElem?_getD, List.getElem?_map, h1]
    rfl
  have o2 : ov (ks.map (·.2)) (i + 1) = (ks[i + 1]'(by omega)).2 := by
    unfold ov
    rw [List.getD_eq_getElem?_getD, List.getElem?_map, h2]
    rfl
  have ne := fun e => ov_inj nd (i := i) (j := i + 1) (by omega) (by omega) e
  rw [o1, o2] at ne
  have z := SrtO.lexB_no.mp ((List.pairwise_iff_getElem.mp hs) i (i + 1) (by omega) (by omega) (by omega))
  have f1 := fst _ (List.getElem_mem (show i < ks.length by omega))
  have f2 := fst _ (List.getElem_mem (show i + 1 < ks.length by omega))
  rw [o1, o2]
  unfold lnk
  rw [← f1, ← f2]
  have ne2 : (ks[i]'(by omega)).2 ≠ (ks[i + 1]'(by omega)).2 := fun e => by
    have := ne e
    omega
  omega
section
variable {P : Program} {w : World} {K : PySem.W.Frag} {mg : Str → Option Value} {base : Heap}
def spRobOrder (K : PySem.W.Frag) (C : Addr) : Sp := fun vs H Q E => ∃ (v : V) (d : PyData), vs = [v] ∧ Dp K H v d ∧ lenT d ≤ 900 ∧
  (∀ ls, d = .tuple (intsD ls) → (∀ x ∈ ls, 1 ≤ x) → ∀ os v' H', IsOrd os → os.length = ls.length → Chn ls os os.length → Same H H' → Dp K H' v' (.tuple (intsD os)) → Q v' H') ∧
  (∀ p, robPlace d = some p → ∀ (dx : Addr) (H' : Hp), Same H H' → H' dx = some (.xd [(("place" : Str), .int p)]) → E (.ref C) (some dx) H')
theorem scRobOrder : FnScope ["lengths", "pairs", "index", "length", "_"] ["lengths"] (defScope sRobOrder) := ⟨rfl, rfl, rfl, by decide +kernel, rfl, by decide +kernel, by decide +kernel⟩
theorem ok_robOrder {C : Addr} (D : Df K mg "robin_order" sRobOrder ["lengths"]) (B : Blt mg) (so : mg "sorted" = none) (CR : Cl P w K mg base (L2.CX P w) 4 "check_robin" ["lengths"] (spCheckRob K C)) : Cl P w K mg base (L2.CX P w) 5 "robin_order" ["lengths"] (spRobOrder K C) := by
  refine clX D scRobOrder (fun vs H Q E h => ?_) (fun f cdv A outer s H vs Q E hr h => ?_)
  · obtain ⟨v, d, rfl, _⟩ := h
    rfl
  · obtain ⟨v, d, rfl, hd, l9, kN, kE⟩ := h
    obtain ⟨fL, fdL, mL, kpL, bL, FL⟩ := CR.ex
    refine ⟨_, pss_cons (ps_expr (pe_call (E := E) FL (hr.mono (by decide)) rfl mL kpL bL .nil (passes_call (W := fun cls d _ H => E cls d H) (takes_of rfl rfl rfl rfl) (fun _ _ _ _ h => h)) (pa_cons (pv 0) pa_nil)))
      (pss_cons (ps_set (i := 1) scRobOrder.nd rfl (Or.inl rfl) (pe_callB cr_sortedPO (by rfl) so (by decide +kernel) (pa_cons
        (pe_lc (own := [("index", 2), ("length", 3)]) (g := gTup K 2 (gCons (gName 2) (gCons (gName 3) gNil))) (tt := tYes) (te := tTup (tCons (tVar 3) (tCons (tVar 2) tNil))) (by rfl) scRobOrder.nd (pi_enumT B.enum (pa_cons (pv 0) pa_nil))
          (blkOk_by (own := [("index", 2), ("length", 3)]) (N := ["lengths", "pairs", "index", "length", "_"]) (sc := defScope sRobOrder) (by decide +kernel))
          (fun _ _ _ _ _ => pg_tup rfl (pgs_cons (pg_name (i := 2) scRobOrder.nd rfl (Or.inl rfl)) (pgs_cons (pg_name (i := 3) scRobOrder.nd rfl (Or.inl rfl)) pgs_nil))) (fun _ _ _ _ _ => pts_nil) (fun _ _ _ _ _ => pe_tup (pa_cons (pv 3) (pa_cons (pv 2) pa_nil)))) pa_nil)))
      (pss_one (ps_ret (pe_callTy call_tuple_of (by rfl) B.tuple (by decide +kernel) (pa_cons
        (pe_lc (own := [("_", 4), ("index", 2)]) (g := gTup K 2 (gCons (gName 4) (gCons (gName 2) gNil))) (tt := tYes) (te := tVar 2) (by rfl) scRobOrder.nd (pi_list (pv 1))
          (blkOk_by (own := [("_", 4), ("index", 2)]) (N := ["lengths", "pairs", "index", "length", "_"]) (sc := defScope sRobOrder) (by decide +kernel))
          (fun _ _ _ _ _ => pg_tup rfl (pgs_cons (pg_name (i := 4) scRobOrder.nd rfl (Or.inl rfl)) (pgs_cons (pg_name (i := 2) scRobOrder.nd rfl (Or.inl rfl)) pgs_nil))) (fun _ _ _ _ _ => pts_nil) (fun _ _ _ _ _ => pv 2)) pa_nil))))), ?_⟩
    refine ⟨_, rfl, v, d, rfl, hd, fun rp H1 s1 => ?_, fun p e dx H' s' hx => kE p e dx H' s' hx⟩
    obtain ⟨ls, rfl, lpos⟩ := rob_of rp
    have kN2 := kN ls rfl lpos
    have ll : ls.length ≤ 900 := by
      have z : (intsD ls).length ≤ 900 := l9
      rw [show (intsD ls).length = ls.length from List.length_map ..] at z
      exact z
    obtain ⟨pl, xs, rfl, ql, rl⟩ := dp_tuple (dp_same s1 hd)
    have ex := ints_dps rl
    subst ex
    refine ⟨_, rfl, pl, _, rfl, ql, fun D1 nD1 => ?_⟩
    refine lc_it (walk_enumT (K := K) (a := pl) (xs := ls.map V.int)) (fun m Hc => ∃ acc, Same H1 (Off D1 Hc) ∧ Hc D1 = some (.lst acc) ∧ PrL (Off D1 Hc) acc ((idxP ls).take m))
      ⟨[], by rw [off_upd, off_none nD1]; exact Same.refl H1, upd_same, rfl, fun j x p h => absurd h (by simp)⟩ (fun m Hc _ ⟨acc, s3, _⟩ => same_seqT (s3.trans (off_sub D1 Hc)) ql) ?_ ?_
    · rintro m v1 Hc G2 hm ⟨acc, s3, hD, hP⟩ ⟨TT, x1, y1, rfl, nT, rfl, ex, ey⟩
      cases ex
      replace ey : (ls.map V.int)[m]? = some y1 := ey
      rw [List.getElem?_map] at ey
      obtain ⟨x, hx, rfl⟩ := Option.map_eq_some_iff.mp ey
      have gT := same_new (o := .tup [V.int (m : Nat), V.int x]) nT
      have TD : TT ≠ D1 := fun e => by rw [e, hD] at nT; cases nT
      have hm' : m < ls.length := (List.getElem?_eq_some_iff.mp hx).1
      have al : acc.length = m := by
        rw [hP.1, List.length_take, idx_len]
        omega
      refine ⟨TT, _, rfl, SqT.of upd_same, rfl, _, _, rfl, _, _, rfl, rfl, rfl, ?_⟩
      refine ⟨_, rfl, _, rfl, (by show 2 ≤ sizeLine; decide), fun t nt => ?_⟩
      have st := same_new (o := .tup [.int x, .int (m : Nat)]) nt
      have tD : t ≠ D1 := fun e => by rw [e, gT.at hD] at nt; cases nt
      have sAll := gT.trans st
      refine ⟨acc, sAll.at hD, Nat.lt_of_le_of_lt (show acc.length ≤ 900 by omega) (by decide), acc ++ [.ref t], ?_, upd_same, ?_⟩
      · rw [off_upd]
        exact s3.trans (off_mono sAll)
      · rw [off_upd, idx_take hx]
        exact (hP.same (off_mono sAll)).snoc (p := (x, (m : Int))) (by rw [off_ne tD]; exact upd_same)
    rintro G1 ⟨acc, t3, hD1, hP⟩
    rw [List.length_map, show (idxP ls).take ls.length = idxP ls by rw [← idx_len (ls := ls)]; exact List.take_length] at hP
    have sF := t3.trans (off_sub D1 G1)
    have hP := hP.same (off_sub D1 G1)
    refine ⟨D1, acc, prK G1, rfl, SqL.of hD1, hP.all, fun ys p hs hb np => ?_⟩
    have g1 := same_new (o := .lst ys) np
    have hp : upd G1 p (.lst ys) p = some (.lst ys) := upd_same
    obtain ⟨o1, o2, o3⟩ := srt_ord (ls := ls) (ks := ys.map (prK G1)) (List.pairwise_map.mpr hs) (by rw [← hP.keys]; exact hb.perm.map _)
    have yall : ∀ y ∈ ys, ∃ t, y = V.ref t ∧ G1 t = some (.tup [.int (prK G1 y).1, .int (prK G1 y).2]) := fun y hy => hP.all y (hb.perm.mem_iff.mp hy)
    have yl : ys.length = ls.length := by
      rw [hb.perm.length_eq, hP.1, idx_len]
    rw [List.map_map] at o1 o2 o3
    have sF1 := sF.trans g1
    have yall2 : ∀ y ∈ ys, ∃ t, y = V.ref t ∧ upd G1 p (.lst ys) t = some (.tup [.int (prK G1 y).1, .int (prK G1 y).2]) := fun y hy => by
      obtain ⟨t, e, q⟩ := yall y hy
      exact ⟨t, e, g1.at q⟩
    generalize upd G1 p (.lst ys) = G2 at hp sF1 yall2 ⊢
    refine ⟨_, rfl, p, rfl, ⟨_, SqL.of hp⟩, fun D2 nD2 => ?_⟩
    refine lc_it (walk_list (K := K) (a := p) (xs := ys)) (fun m Hc => Same G2 Hc ∧ Hc D2 = some (.lst (((ys.take m).map fun y => (prK G1 y).2).map V.int)))
      ⟨same_new nD2, upd_same⟩ (fun m Hc _ ⟨s3, _⟩ => SqL.of (s3.at hp)) ?_ ?_
    · rintro m y1 Hc0 Hc hm ⟨s3, hD⟩ ⟨rfl, hy1⟩
      obtain ⟨t, rfl, ht⟩ := yall2 y1 (List.mem_of_getElem? hy1)
      refine ⟨t, _, rfl, SqT.of (s3.at ht), rfl, _, _, rfl, _, _, rfl, rfl, rfl, ?_⟩
      refine ⟨_, rfl, _, hD, ?_, same_put s3 nD2, ?_⟩
      · rw [List.length_map, List.length_map, List.length_take]
        exact Nat.lt_of_le_of_lt (show min m ys.length ≤ 900 by omega) (by decide)
      · rw [upd_same, List.take_add_one, hy1, List.map_append, List.map_append]
        rfl
    rintro G3 ⟨s3, hD2⟩
    rw [List.take_length] at hD2
    refine ⟨D2, _, rfl, .inl ⟨SqL.of hD2, fun t nt => ?_⟩⟩
    have gt := same_new (o := .tup ((ys.map fun y => (prK G1 y).2).map V.int)) nt
    exact kN2 _ (.ref t) _ o1 o2 o3 ((s1.trans sF1).trans (s3.trans gt)) (.tup (SqT.of upd_same) dps_ints)
def spLeast (K : PySem.W.Frag) (C : Addr) : Sp := fun vs H Q E => ∃ (v : V) (d : PyData), vs = [v] ∧ Dp K H v d ∧ lenT d ≤ 900 ∧
  (∀ os, d = .tuple (intsD os) → IsOrd os → ∀ ls v' H', Lst ls os → Same H H' → Dp K H' v' (.tuple (intsD ls)) → (∀ a, H a ≠ none → Dp K (Off a H') v' (.tuple (intsD ls))) → Q v' H') ∧
  (∀ p, orderPlace d = some p → ∀ (dx : Addr) (H' : Hp), Same H H' → H' dx = some (.xd [(("place" : Str), .int p)]) → E (.ref C) (some dx) H')
theorem scLeast : FnScope ["order", "least", "length", "before", "index"] ["order"] (defScope sLeast) := ⟨rfl, rfl, rfl, by decide +kernel, rfl, by decide +kernel, by decide +kernel⟩
theorem ok_least {C : Addr} (D : Df K mg "least_lengths" sLeast ["order"]) (B : Blt mg) (CO : Cl P w K mg base (L2.CX P w) 3 "check_order" ["order"] (spCheckOrd K C)) : Cl P w K mg base (L2.CX P w) 4 "least_lengths" ["order"] (spLeast K C) := by
  refine clX D scLeast (fun vs H Q E h => ?_) (fun f cdv A outer s H vs Q E hr h => ?_)
  · obtain ⟨v, d, rfl, _⟩ := h
    rfl
  · obtain ⟨v, d, rfl, hd, l9, kN, kE⟩ := h
    obtain ⟨fL, fdL, mL, kpL, bL, FL⟩ := CO.ex
    refine ⟨_, pss_cons (ps_expr (pe_call (E := E) FL (hr.mono (by decide)) rfl mL kpL bL .nil (passes_call (W := fun cls d _ H => E cls d H) (takes_of rfl rfl rfl rfl) (fun _ _ _ _ h => h)) (pa_cons (pv 0) pa_nil)))
      (pss_cons (ps_set (i := 1) scLeast.nd rfl (Or.inl rfl) (pe_op op_rep (pe_lst (pa_cons pe_int pa_nil)) (pe_callB call_len_seq (by rfl) B.len PySem.boot_len (pa_cons (pv 0) pa_nil))))
      (pss_cons (ps_set (i := 2) scLeast.nd rfl (Or.inl rfl) pe_int)
      (pss_cons (ps_set (i := 3) scLeast.nd rfl (Or.inl rfl) (pe_un un_neg pe_int))
      (pss_cons (ps_for (passes_of rfl) rfl (pi_tup (pv 0)) (pg_name (i := 4) scLeast.nd rfl (.inl rfl))
        (pss_cons (ps_if (pt_cmpR op_lt (pv 4) (pv 3) (nomark _)) (pss_one (ps_aug (i := 2) scLeast.nd rfl (Or.inl rfl) pe_int ip_add)) pss_nil)
        (pss_cons (ps_asg (pv 2) (pg_sub (pv 1) (pv 4) set_list))
        (pss_one (ps_set (i := 3) scLeast.nd rfl (Or.inl rfl) (pv 4))))))
      (pss_one (ps_ret (pe_callTy call_tuple_of (by rfl) B.tuple (by decide +kernel) (pa_cons (pv 1) pa_nil)))))))), ?_⟩
    refine ⟨_, rfl, v, d, rfl, hd, fun rp H1 s1 => ?_, fun p e dx H' s' hx => kE p e dx H' s' hx⟩
    obtain ⟨os, rfl, ord⟩ := order_of rp
    have kN2 := kN os rfl ord
    have ll : os.length ≤ 900 := by
      have z : (intsD os).length ≤ 900 := l9
      rw [show (intsD os).length = os.length from List.length_map ..] at z
      exact z
    obtain ⟨pl, xs, rfl, ql, rl⟩ := dp_tuple (dp_same s1 hd)
    have ex := ints_dps rl
    subst ex
    refine ⟨(by show 1 ≤ sizeLine; decide), fun q nq => ?_⟩
    have sq := same_new (o := .lst [.int 0]) nq
    refine ⟨_, rfl, pl, _, rfl, .inr (same_seqT sq ql), q, _, _, rfl, rfl, upd_same, by omega, by rw [List.length_map]; omega, ?_, fun l nl => ?_⟩
    · rw [List.length_map]
      exact Nat.le_trans (show 1 * ((os.length : Nat) : Int).toNat ≤ 900 by omega) (by decide)
    have sl := same_new (o := .lst (List.replicate (((os.map V.int).length : Nat) : Int).toNat [V.int 0]).flatten) nl
    have e0 : (List.replicate (((os.map V.int).length : Nat) : Int).toNat [V.int 0]).flatten = (List.replicate os.length (0 : Int)).map V.int := by
      rw [List.length_map, Int.toNat_natCast, List.map_replicate]
      induction os.length with
      | zero => rfl
      | succ n ih => rw [List.replicate_succ, List.flatten_cons, ih]; rfl
    have hl : upd (upd H1 q (.lst [.int 0])) l (.lst (List.replicate (((os.map V.int).length : Nat) : Int).toNat [V.int 0]).flatten) l = some (.lst ((List.replicate os.length (0 : Int)).map V.int)) := by rw [upd_same, e0]
    have ql1 := same_seqT sq ql
    have sq1 := s1.trans sq
    generalize upd H1 q (.lst [.int 0]) = H2 at nl sl hl ql1 sq1 ⊢
    have hOff : Same H2 (Off l (upd H2 l (.lst (List.replicate (((os.map V.int).length : Nat) : Int).toNat [V.int 0]).flatten))) := by
      rw [off_upd, off_none nl]
      exact Same.refl H2
    generalize upd H2 l _ = H3 at sl hl hOff ⊢
    refine ⟨_, rfl, ?_⟩
    refine ⟨_, rfl, pl, rfl, ⟨_, same_seqT sl ql1⟩, for_it (walk_tup (K := K) (a := pl) (xs := os.map V.int)) (fun i σ G => ∃ (n b : Int) (u4 : Option V) (ns : List Int), σ = [some (.ref pl), some (.ref l), some (.int n), some (.int b), u4] ∧ Same H2 (Off l G) ∧ G l = some (.lst (ns.map V.int)) ∧ ns.length = os.length ∧
        (∀ j, j < i → lv ns (ov os j) = st os j) ∧ (i = 0 → n = 1 ∧ b = -1) ∧ (∀ j, i = j + 1 → n = st os j ∧ b = ov os j))
      ⟨1, -1, none, List.replicate os.length 0, rfl, hOff, hl, List.length_replicate .., fun j hj => by omega, fun _ => ⟨rfl, rfl⟩, fun j hj => by omega⟩ (fun i σ G _ ⟨_, _, _, _, _, sG, _⟩ => same_seqT (sG.trans (off_sub l G)) ql1) ?_ ?_⟩
    · rintro i y1 σ G0 G hi ⟨n, b, u4, ns, rfl, sG, lG, nl', hj, h0, h1⟩ ⟨rfl, hy1⟩
      rw [List.getElem?_map] at hy1
      obtain ⟨vi, hvi, rfl⟩ := Option.map_eq_some_iff.mp hy1
      have hi' : i < os.length := (List.getElem?_eq_some_iff.mp hvi).1
      have evi : ov os i = vi := Option.some.inj ((ov_get hi').symm.trans hvi)
      have rng := ord.rng vi (List.mem_of_getElem? hvi)
      have step : (if vi < b then n + 1 else n) = st os i := by
        cases i with
        | zero =>
          obtain ⟨rfl, rfl⟩ := h0 rfl
          rw [if_neg (by omega)]
          rfl
        | succ j =>
          obtain ⟨rfl, rfl⟩ := h1 j rfl
          show _ = (if ov os (j + 1) < ov os j then st os j + 1 else st os j)
          rw [evi]
      refine ⟨_, rfl, _, rfl, _, _, rfl, rfl, _, rfl, ?_⟩
      apply cutR (α := L2.St → Hp → Prop) (F := fun R => R [some (.ref pl), some (.ref l), some (.int (st os i)), some (.int b), some (.int vi)] G)
      · intro cont
        refine ite2 (fun hz => ?_) (fun hz => ?_)
        · rw [if_pos (of_decide_eq_true hz)] at step
          rw [← step] at cont
          exact ⟨_, rfl, _, _, rfl, rfl, cont⟩
        · rw [if_neg (fun e => hz (decide_eq_true e))] at step
          rw [← step] at cont
          exact cont
      have hk : vi.toNat < ns.length := by omega
      refine ⟨_, rfl, _, rfl, _, rfl, l, _, _, vi.toNat, rfl, rfl, lG, ixN_at rng.1 (by rw [List.length_map]; omega), ?_⟩
      refine ⟨_, rfl, st os i, vi, _, ns.set vi.toNat (st os i), rfl, by rw [off_upd]; exact sG, by rw [upd_same, List.map_set], by rw [List.length_set, nl'], fun j hji => ?_, fun e => by omega, fun j e => ?_⟩
      · have rj : 0 ≤ ov os j := by
          have hj' : j < os.length := by omega
          exact (ord.rng _ (ov_mem hj')).1
        rw [lv_set hk rj]
        by_cases e : j = i
        · subst e
          rw [evi, if_pos (by omega)]
        · rw [if_neg (fun z => e (ov_inj ord.nd (by omega) hi' (by rw [evi]; omega))), hj j (by omega)]
      · have e : i = j := by omega
        subst e
        exact ⟨rfl, evi.symm⟩
    · rintro σ G ⟨n, b, u4, ns, rfl, sG, lG, nl', hj, _, _⟩
      rw [List.length_map] at hj
      refine ⟨_, rfl, l, _, rfl, .inl ⟨SqL.of lG, fun t nt => ?_⟩⟩
      have gt := same_new (o := .tup (ns.map V.int)) nt
      have sE := sq1.trans (sG.trans (off_sub l G))
      refine kN2 ns (.ref t) _ ⟨nl', hj⟩ (sE.trans gt) (.tup (SqT.of upd_same) dps_ints) (fun a ha => .tup (a := t) (SqT.of ?_) dps_ints)
      rw [off_ne (ne_has (sE.has a ha) nt)]
      exact upd_same
end
end Vk
namespace Vk
open PySem PySem.Spec PyProof.Rows L2 GxR RZ
def rLenS (K : PySem.W.Frag) : List V → Hp → VK → Prop := fun xs H Q => ∃ p ys, xs = [.ref p] ∧ (SqL K H p ys ∨ SqT K H p ys) ∧ Q (.int ys.length) H
def rngI (n : Nat) : List Int := (List.range n).map fun (i : Nat) => (i : Int)
theorem rng_nodup (n : Nat) : (rngI n).Nodup := List.pairwise_map.mpr ((List.nodup_range (n := n)).imp fun h e => h (Int.ofNat.inj e))
theorem rng_len (n : Nat) : (rngI n).length = n := by
  unfold rngI
  rw [List.length_map, List.length_range]
theorem perm_ord {n : Nat} {os : List Int} (h : os.Perm (rngI n)) : IsOrd os ∧ os.length = n := by
  have l : os.length = n := by rw [h.length_eq, rng_len]
  refine ⟨⟨fun v hv => ?_, h.nodup_iff.mpr (rng_nodup n)⟩, l⟩
  obtain ⟨i, hi, rfl⟩ := List.mem_map.mp (h.mem_iff.mp hv)
  have := List.mem_range.mp hi
  rw [l]
  omega
theorem perm_erase {xs : List Int} {i : Nat} {y : Int} (h : xs[i]? = some y) : xs.Perm (y :: xs.eraseIdx i) := by
  obtain ⟨hi, e⟩ := List.getElem?_eq_some_iff.mp h
  rw [List.eraseIdx_eq_take_drop_succ]
  have e2 : xs = xs.take i ++ y :: xs.drop (i + 1) := by
    rw [← e, ← List.drop_eq_getElem_cons hi, List.take_append_drop]
  exact (List.Perm.of_eq e2).trans List.perm_middle
theorem perm_insert {xs : List Int} {i : Nat} {y : Int} : (xs.take i ++ [y] ++ xs.drop i).Perm (y :: xs) := by
  rw [List.append_assoc]
  refine List.perm_middle.trans ?_
  show (y :: (xs.take i ++ xs.drop i)).Perm (y :: xs)
  rw [List.take_append_drop]
theorem walk_zipT {K : PySem.W.Frag} {a b : Addr} {xs ys : List V} {n : Nat} (hn : n = min xs.length ys.length) : Walk (ItzT K a b) n (fun H => SqT K H a xs ∧ SqT K H b ys) (YPair (fun i => xs[i]?) (fun i => ys[i]?)) := by
  subst hn
  refine ⟨fun i _ hi q => ?_, fun _ q => ⟨xs, ys, q.1, q.2, by omega⟩, fun i H v H' _ q y => ?_⟩
  · have h1 : i < xs.length := by omega
    have h2 : i < ys.length := by omega
    exact ⟨xs, ys, xs[i], ys[i], q.1, q.2, by simp [h1], by simp [h2]⟩
  · obtain ⟨T, x, z, h1, h2, h3, h4, h5⟩ := y
    exact ⟨T, x, z, h1, h2, h3, h4 xs q.1, h5 ys q.2⟩
theorem ints_take {xs : List Int} {n : Nat} : (intsD xs).take n = intsD (xs.take n) := List.map_take.symm
theorem ints_drop {xs : List Int} {n : Nat} : (intsD xs).drop n = intsD (xs.drop n) := List.map_drop.symm
theorem ints_len {xs : List Int} : (intsD xs).length = xs.length := List.length_map ..
theorem ints_app {xs ys : List Int} : intsD xs ++ intsD ys = intsD (xs ++ ys) := List.map_append.symm
section
variable {P : Program} {w : World} {K : PySem.W.Frag} {mg : Str → Option Value} {base : Heap}
def spOrderOf (K : PySem.W.Frag) : Sp := fun vs H Q _ => ∃ (a sc : Addr) (n c : Int), vs = [.ref a, .int c] ∧ Sto sc a n H ∧ n ≤ 800000 ∧ 0 ≤ c ∧ c ≤ 41 ∧
  ∀ (os : List Int) (v' : V) (H' : Hp), IsOrd os → (os.length : Int) = c → Sto sc a (n + 60) H' → Kept a H H' → Dp K (Off a H') v' (.tuple (intsD os)) → Q v' H'
theorem scOrderOf : FnScope ["store", "count", "left", "way", "k", "entry"] ["store", "count"] (defScope sOrderOf) := ⟨rfl, rfl, rfl, by decide +kernel, rfl, by decide +kernel, by decide +kernel⟩
theorem ok_orderOf (D : Df K mg "_law_order_of" sOrderOf ["store", "count"]) (B : Blt mg) (mn : mg "min" = none) (PK : Cl P w K mg base CX0 2 "_law_pick" ["store", "count"] spPick) : Cl P w K mg base CX0 3 "_law_order_of" ["store", "count"] (spOrderOf K) := by
  refine cl0 D scOrderOf (fun vs H Q E h => ?_) (fun f cdv A outer s H vs Q E hr h => ?_)
  · obtain ⟨a, sc, n, c, rfl, _⟩ := h
    rfl
  · obtain ⟨a, sc, n, c, rfl, S, n1, c0, c41, k⟩ := h
    refine ⟨_, pss_cons (ps_set (i := 2) scOrderOf.nd rfl (Or.inr rfl) (pe_listRg rfl rfl B.list (prg_1 rfl B.range (pv 1))))
      (pss_cons (ps_set (i := 3) scOrderOf.nd rfl (Or.inl rfl) (pc PK hr (by decide) (pa_cons (pv 0) (pa_cons pe_int pa_nil))))
      (pss_cons (ps_if (pt_cmpR op_eq (pv 3) pe_int (nomark _)) (pss_one (ps_ret (pe_callTy call_tuple_of (by rfl) B.tuple (by decide +kernel) (pa_cons
        (pe_lc (own := [("k", 4)]) (g := gName 4) (tt := tYes) (te := tBM K "list" rPopAt (tVar 2) (tCons (tCal spPick (tCons (tVar 0) (tCons (tCB (rLenS K) (tCons (tVar 2) tNil)) tNil))) tNil)) (by rfl) scOrderOf.nd (pi_range1 rfl B.range (pa_cons (pv 1) pa_nil))
          (blkOk_by (own := [("k", 4)]) (N := ["store", "count", "left", "way", "k", "entry"]) (sc := defScope sOrderOf) (by decide +kernel))
          (fun _ _ _ _ _ => pg_name (i := 4) scOrderOf.nd rfl (Or.inl rfl)) (fun _ _ _ _ _ => pts_nil)
          (fun _ _ _ _ _ => pe_bm PySem.F.plainAttrs_list PySem.F.slot_list_pop PySem.F.type_list_pop mt_popAt (pv 2) (pa_cons (pc PK hr (by decide) (pa_cons (pv 0) (pa_cons (pe_callB call_len_seq (by rfl) B.len PySem.boot_len (pa_cons (pv 2) pa_nil)) pa_nil))) pa_nil))) pa_nil)))) pss_nil)
      (pss_cons (ps_if (pt_cmpR op_eq (pv 3) pe_int (nomark _)) (pss_one (ps_set (i := 2) scOrderOf.nd rfl (Or.inr rfl) (pe_revL (pv 2)))) pss_nil)
      (pss_cons (ps_for PassesOwn.never rfl (pi_range1 rfl B.range (pa_cons (pe_callB (call_min2 rfl) (by rfl) mn (by decide +kernel) (pa_cons pe_int (pa_cons (pv 1) pa_nil))) pa_nil)) (pg_name (i := 4) scOrderOf.nd rfl (.inl rfl))
        (pss_cons (ps_set (i := 5) scOrderOf.nd rfl (Or.inl rfl) (pe_bm PySem.F.plainAttrs_list PySem.F.slot_list_pop PySem.F.type_list_pop mt_popAt (pv 2) (pa_cons (pc PK hr (by decide) (pa_cons (pv 0) (pa_cons (pv 1) pa_nil))) pa_nil)))
        (pss_one (ps_expr (pe_bm PySem.F.plainAttrs_list PySem.F.slot_list_insert PySem.F.type_list_insert mt_insert (pv 2) (pa_cons (pc PK hr (by decide) (pa_cons (pv 0) (pa_cons (pv 1) pa_nil))) (pa_cons (pv 5) pa_nil)))))))
      (pss_one (ps_ret (pe_callTy call_tuple_of (by rfl) B.tuple (by decide +kernel) (pa_cons (pv 2) pa_nil)))))))), ?_⟩
    obtain ⟨cn, rfl⟩ := Int.eq_ofNat_of_zero_le c0
    refine ⟨_, rfl, _, rfl, .of_le (by decide) (by omega) (by decide) (by omega), fun l nl => ?_⟩
    have la := S.ne nl
    have lsc := S.ne2 nl
    have s1 := same_new (o := .lst (rgV 0 (cn : Int))) nl
    have er : rgV 0 (cn : Int) = (rngI cn).map V.int := by
      unfold rgV rngI
      rw [show ((cn : Int) - 0).toNat = cn by omega, List.map_map]
      refine List.map_congr_left fun i _ => ?_
      show V.int (0 + (i : Int)) = V.int (i : Int)
      rw [Int.zero_add]
    have hl : upd H l (.lst (rgV 0 (cn : Int))) l = some (.lst ((rngI cn).map V.int)) := by rw [upd_same, er]
    have S1 := S.same s1
    have hO : Same (Off a H) (Off l (Off a (upd H l (.lst (rgV 0 (cn : Int)))))) := by
      rw [off_other la, off_upd, off_none (off_free nl)]
      exact Same.refl _
    generalize upd H l (.lst (rgV 0 (cn : Int))) = H1 at s1 hl S1 hO ⊢
    refine ⟨_, rfl, a, sc, 3, _, rfl, by decide, by decide, S1, by omega, fun wy H2 w0 w3 S2 K2 => ?_⟩
    have hl2 := K2.at hl la
    have hO2 : Same (Off a H) (Off l (Off a H2)) := hO.trans (off_mono K2)
    refine ⟨_, rfl, rfl, _, rfl, ite2 (fun hw => ?_) (fun hw => ?_)⟩
    · -- any
      refine ⟨_, rfl, cn, rfl, by omega, by omega, fun D1 nD1 => ?_⟩
      have Da := S2.ne nD1
      have Dl : D1 ≠ l := fun e => by rw [e, hl2] at nD1; cases nD1
      refine lc_it (walk_range (lo := 0) (n := ((cn : Int)).toNat)) (fun m Hc => ∃ (acc lf : List Int), Same (Off a H) (Off D1 (Off l (Off a Hc))) ∧ Hc D1 = some (.lst (acc.map V.int)) ∧ Hc l = some (.lst (lf.map V.int)) ∧ acc.length = m ∧ (acc ++ lf).Perm (rngI cn) ∧ Sto sc a (n + 1 + m) Hc)
        ⟨[], rngI cn, by rw [off_other Da, off_other Dl, off_upd, off_none (off_free (off_free nD1))]; exact hO2, upd_same, by rw [upd_ne Dl.symm]; exact hl2, rfl, List.Perm.refl _, (S2.same (same_new nD1)).more (by omega)⟩ (fun _ _ _ _ => trivial) ?_ ?_
      · rintro m y1 Hc0 Hc hm ⟨acc, lf, sO, hD, hl3, al, pm, SG⟩ ⟨rfl, rfl⟩
        have ll := pm.length_eq
        rw [List.length_append, rng_len] at ll
        refine ⟨rfl, ?_⟩
        refine ⟨_, rfl, .inl ⟨rfl, _, SqL.of hl3⟩, _, rfl, _, rfl, l, _, rfl, .inl (SqL.of hl3), a, sc, _, _, rfl, by rw [List.length_map]; omega, by rw [List.length_map]; omega, SG, by omega, fun r H3 r0 r1 S3 K3 => ?_⟩
        rw [List.length_map] at r1
        have hl4 := K3.at hl3 la
        have hD4 := K3.at hD Da
        have hri : lf[r.toNat]? = some lf[r.toNat] := List.getElem?_eq_getElem (by omega)
        generalize lf[r.toNat] = y at hri
        refine ⟨l, _, r, r.toNat, .int y, rfl, rfl, hl4, by omega, by omega, sq_at r0 (by rw [List.length_map]; exact r1), by rw [List.getElem?_map, hri]; rfl, ?_⟩
        refine ⟨_, by rw [upd_ne Dl]; exact hD4, by rw [List.length_map]; exact Nat.lt_of_le_of_lt (show acc.length ≤ 41 by omega) (by decide), acc ++ [y], lf.eraseIdx r.toNat, ?_, ?_, ?_, by rw [List.length_append, al]; rfl, ?_, ?_⟩
        · rw [off_other Da, off_other Dl, off_upd, off_other la, off_upd]
          exact sO.trans (off_mono (off_mono K3))
        · rw [upd_same, List.map_append]
          rfl
        · rw [upd_ne Dl.symm, upd_same, map_erase]
        · refine List.Perm.trans ?_ pm
          rw [List.append_assoc]
          exact List.Perm.append_left _ (perm_erase hri).symm
        · have Dsc : D1 ≠ sc := fun e => by
            obtain ⟨_, _, _, _, _, _, _, q, _⟩ := S2.ex
            rw [e, q] at nD1
            cases nD1
          exact ((S3.other la lsc).other Da Dsc).more (by push_cast; omega)
      rintro G1 ⟨acc, lf, sO, hD, hl3, al, pm, SG⟩
      have lf0 : lf = [] := by
        have ll := pm.length_eq
        rw [List.length_append, rng_len, al, Int.toNat_natCast] at ll
        exact List.eq_nil_of_length_eq_zero (by omega)
      rw [lf0, List.append_nil] at pm
      obtain ⟨io, lo⟩ := perm_ord pm
      refine ⟨D1, _, rfl, .inl ⟨SqL.of hD, fun t nt => ?_⟩⟩
      have st := same_new (o := .tup (acc.map V.int)) nt
      refine k acc (.ref t) _ io (by omega) ((SG.same st).more (by rw [Int.toNat_natCast]; omega)) ((sO.trans ((off_sub D1 _).trans (off_sub l _))).trans (off_mono st)) (.tup (a := t) (SqT.of ?_) dps_ints)
      rw [off_ne (SG.ne nt), upd_same]
    · apply cutR (α := L2.St → Hp → Prop) (F := fun R => ∀ (l2 : Addr) (lf : List Int) (G : Hp), l2 ≠ a → l2 ≠ sc → G l2 = some (.lst (lf.map V.int)) → lf.Perm (rngI cn) → Same (Off a H) (Off l2 (Off a G)) → Sto sc a (n + 1) G → R [some (.ref a), some (.int cn), some (.ref l2), some (.int wy), none, none] G)
      · intro cont
        refine ⟨_, rfl, rfl, _, rfl, ite2 (fun _ => ?_) (fun _ => ?_)⟩
        case refine_2 => exact cont l (rngI cn) H2 la lsc hl2 (List.Perm.refl _) hO2 S2
        refine ⟨_, rfl, l, _, rfl, SqL.of hl2, fun p np => ?_⟩
        have sp := same_new (o := .lst ((rngI cn).map V.int).reverse) np
        refine cont p (rngI cn).reverse _ (S2.ne np) (S2.ne2 np) (by rw [upd_same, List.map_reverse]) (List.reverse_perm _) ?_ (S2.same sp)
        have pl : p ≠ l := fun e => by rw [e, hl2] at np; cases np
        rw [off_other (S2.ne np), off_upd, off_none (off_free np)]
        exact hO2.trans (off_sub l _)
      intro l2 lf G l2a l2sc hG pm sO SG
      refine ⟨_, rfl, _, _, rfl, _, rfl, by split <;> omega, by split <;> omega, ?_⟩
      refine for_range (lo := 0) (n := (if (cn : Int) < 3 then (cn : Int) else 3).toNat) (fun i σ G => ∃ (u4 u5 : Option V) (lf : List Int), σ = [some (.ref a), some (.int cn), some (.ref l2), some (.int wy), u4, u5] ∧ G l2 = some (.lst (lf.map V.int)) ∧ lf.Perm (rngI cn) ∧ Same (Off a H) (Off l2 (Off a G)) ∧ Sto sc a (n + 1 + 2 * i) G)
        ⟨_, _, lf, rfl, hG, pm, sO, SG.more (by omega)⟩ ?_ ?_
      · rintro i σ G hi ⟨u4, u5, lf, rfl, hG, pm, sO, SG⟩
        have ll := pm.length_eq
        rw [rng_len] at ll
        have c1 : 1 ≤ cn ∧ i < 3 := by
          split at hi <;> omega
        refine ⟨_, rfl, .inl ⟨rfl, _, SqL.of hG⟩, _, rfl, _, rfl, a, sc, _, _, rfl, by omega, by omega, SG, by omega, fun r H3 r0 r1 S3 K3 => ?_⟩
        have hG3 := K3.at hG l2a
        have hri : lf[r.toNat]? = some lf[r.toNat] := List.getElem?_eq_getElem (by omega)
        generalize lf[r.toNat] = y at hri
        refine ⟨l2, _, r, r.toNat, .int y, rfl, rfl, hG3, by omega, by omega, sq_at r0 (by rw [List.length_map]; omega), by rw [List.getElem?_map, hri]; rfl, ?_⟩
        have S4 := S3.other (o := .lst ((lf.map V.int).eraseIdx r.toNat)) l2a l2sc
        have pe := perm_erase hri
        have el : (lf.eraseIdx r.toNat).length = cn - 1 := by
          have z := pe.length_eq
          rw [List.length_cons, ll] at z
          omega
        rw [map_erase] at S4 ⊢
        have h4 : upd H3 l2 (.lst ((lf.eraseIdx r.toNat).map V.int)) l2 = some (.lst ((lf.eraseIdx r.toNat).map V.int)) := upd_same
        have sO4 : Same (Off a H) (Off l2 (Off a (upd H3 l2 (.lst ((lf.eraseIdx r.toNat).map V.int))))) := by
          rw [off_other l2a, off_upd]
          exact sO.trans (off_mono K3)
        generalize upd H3 l2 (.lst ((lf.eraseIdx r.toNat).map V.int)) = H4 at S4 h4 sO4 ⊢
        refine ⟨_, rfl, .inl ⟨rfl, _, SqL.of h4⟩, _, rfl, _, rfl, a, sc, _, _, rfl, by omega, by omega, S4, by omega, fun r2 H5 q0 q1 S5 K5 => ?_⟩
        have h5 := K5.at h4 l2a
        refine ⟨_, rfl, l2, _, r2, .int y, rfl, rfl, h5, by rw [List.length_map]; exact Nat.lt_of_le_of_lt (show _ ≤ 41 by omega) (by decide), q0, by omega, ?_⟩
        refine ⟨_, _, (lf.eraseIdx r.toNat).take r2.toNat ++ [y] ++ (lf.eraseIdx r.toNat).drop r2.toNat, rfl, ?_, ?_, ?_, ?_⟩
        · rw [upd_same, List.map_append, List.map_append, List.map_take, List.map_drop]
          rfl
        · exact (perm_insert.trans pe.symm).trans pm
        · rw [off_other l2a, off_upd]
          exact sO4.trans (off_mono K5)
        · exact (S5.other l2a l2sc).more (by push_cast; omega)
      · rintro σ G ⟨u4, u5, lf, rfl, hG, pm, sO, SG⟩
        obtain ⟨io, lo⟩ := perm_ord pm
        refine ⟨_, rfl, l2, _, rfl, .inl ⟨SqL.of hG, fun t nt => ?_⟩⟩
        have st := same_new (o := .tup (lf.map V.int)) nt
        refine k lf (.ref t) _ io (by omega) ((SG.same st).more (by split <;> omega)) ((sO.trans (off_sub l2 _)).trans (off_mono st)) (.tup (a := t) (SqT.of ?_) dps_ints)
        rw [off_ne (SG.ne nt), upd_same]
end
end Vk
namespace Vk
open PySem PySem.Spec PyProof.Rows L2 GxR RZ
theorem atI_lv {ns : List Int} {v : Int} (h0 : 0 ≤ v) (h : v < (ns.length : Int)) : atI (ns.map V.int) v = some (.int (lv ns v)) := by
  obtain ⟨i, rfl⟩ := Int.eq_ofNat_of_zero_le h0
  have hi : i < ns.length := by omega
  refine atI_nat (j := i) ?_
  rw [List.getElem?_map, List.getElem?_eq_getElem hi]
  unfold lv
  rw [Int.toNat_natCast, List.getD_eq_getElem?_getD, List.getElem?_eq_getElem hi]
  rfl
theorem atI_neg {xs : List V} {r : Int} (h0 : -1 ≤ r) (h1 : r < (xs.length : Int)) (hp : 0 < xs.length) : ∃ y, atI xs r = some y ∧ y ∈ xs := by
  by_cases z : r = -1
  · subst z
    refine ⟨xs[xs.length - 1], ?_, List.getElem_mem _⟩
    unfold atI ixN
    rw [if_neg (by decide), if_pos (by omega)]
    show xs[((xs.length : Int) + -1).toNat]? = _
    rw [show ((xs.length : Int) + -1).toNat = xs.length - 1 by omega]
    exact List.getElem?_eq_getElem (by omega)
  · obtain ⟨i, rfl⟩ := Int.eq_ofNat_of_zero_le (show 0 ≤ r by omega)
    have hi : i < xs.length := by omega
    exact ⟨xs[i], atI_nat (List.getElem?_eq_getElem hi), List.getElem_mem _⟩
section
variable {P : Program} {w : World} {K : PySem.W.Frag} {mg : Str → Option Value} {base : Heap}
def spLonger (K : PySem.W.Frag) : Sp := fun vs H Q _ => ∃ (a sc : Addr) (n : Int) (v : V) (os : List Int), vs = [.ref a, v] ∧ Sto sc a n H ∧ n ≤ 800000 ∧ Dp K (Off a H) v (.tuple (intsD os)) ∧ IsOrd os ∧ os.length ≤ 41 ∧
  ∀ (ls : List Int) (v' : V) (H' : Hp), ls.length = os.length → (∀ x ∈ ls, 1 ≤ x) → Chn ls os os.length → Sto sc a (n + 100) H' → Kept a H H' → Dp K (Off a H') v' (.tuple (intsD ls)) → Q v' H'
theorem scLonger : FnScope ["store", "order", "lengths", "before", "entry"] ["store", "order"] (defScope sLonger) := ⟨rfl, rfl, rfl, by decide +kernel, rfl, by decide +kernel, by decide +kernel⟩
theorem ok_longer (D : Df K mg "_law_longer" sLonger ["store", "order"]) (B : Blt mg) (zp : mg "zip" = none) (PK : Cl P w K mg base CX0 2 "_law_pick" ["store", "count"] spPick) : Cl P w K mg base CX0 3 "_law_longer" ["store", "order"] (spLonger K) := by
  refine cl0 D scLonger (fun vs H Q E h => ?_) (fun f cdv A outer s H vs Q E hr h => ?_)
  · obtain ⟨a, sc, n, v, os, rfl, _⟩ := h
    rfl
  · obtain ⟨a, sc, n, v, os, rfl, S, n1, dv, ord, l41, k⟩ := h
    refine ⟨_, pss_cons (ps_set (i := 2) scLonger.nd rfl (Or.inl rfl) (pe_op op_rep (pe_lst (pa_cons (pe_op op_add pe_int (pc PK hr (by decide) (pa_cons (pv 0) (pa_cons pe_int pa_nil)))) pa_nil)) (pe_callB call_len_seq (by rfl) B.len PySem.boot_len (pa_cons (pv 1) pa_nil))))
      (pss_cons (ps_for PassesOwn.never rfl (pi_zipA (by rfl) zp (pa_cons (pv 1) (pa_cons (pe_slice sl_tupA (pv 1) (po_some pe_int) po_none) pa_nil))) (pg_tup rfl (pgs_cons (pg_name (i := 3) scLonger.nd rfl (.inl rfl)) (pgs_cons (pg_name (i := 4) scLonger.nd rfl (.inl rfl)) pgs_nil)))
        (pss_one (ps_asg (pe_op op_add (pe_op op_add (pe_ix ix_list (pv 2) (pv 3) (fun _ _ => rfl)) (pe_callTy call_int1 (by rfl) B.int (by decide +kernel) (pa_cons (pe_cmpR op_gt (pv 3) (pv 4) (nomark _)) pa_nil))) (pe_ix ix_list (pe_lst (pa_cons pe_int (pa_cons pe_int (pa_cons (pc PK hr (by decide) (pa_cons (pv 0) (pa_cons pe_int pa_nil))) pa_nil)))) (pc PK hr (by decide) (pa_cons (pv 0) (pa_cons pe_int pa_nil))) (fun _ _ => rfl))) (pg_sub (pv 2) (pv 4) set_list))))
      (pss_one (ps_ret (pe_callTy call_tuple_of (by rfl) B.tuple (by decide +kernel) (pa_cons (pv 2) pa_nil))))), ?_⟩
    refine ⟨_, rfl, a, sc, 3, _, rfl, by decide, by decide, S, by omega, fun r H1 r0 r3 S1 K1 => ?_⟩
    refine ⟨_, _, rfl, rfl, (by show 1 ≤ sizeLine; decide), fun q nq => ?_⟩
    have sq := same_new (o := .lst [.int (1 + r)]) nq
    have S2 := S1.same sq
    have K2 : Kept a H (upd H1 q (.lst [.int (1 + r)])) := K1.trans (kept_same sq)
    have hq : upd H1 q (.lst [.int (1 + r)]) q = some (.lst [.int (1 + r)]) := upd_same
    generalize upd H1 q (.lst [.int (1 + r)]) = H2 at S2 K2 hq ⊢
    obtain ⟨pl, xs, rfl, ql, rl⟩ := dp_tuple (dp_same K2 dv)
    have ex := ints_dps rl
    subst ex
    have dv2 := dp_same K2 dv
    refine ⟨_, rfl, pl, _, rfl, .inr (same_seqT (off_sub a H2) ql), q, _, _, rfl, rfl, hq, by omega, by rw [List.length_map]; omega, ?_, fun l nl => ?_⟩
    · rw [List.length_map]
      exact Nat.le_trans (show 1 * ((os.length : Nat) : Int).toNat ≤ 900 by omega) (by decide)
    have sl := same_new (o := .lst (List.replicate (((os.map V.int).length : Nat) : Int).toNat [V.int (1 + r)]).flatten) nl
    have e0 : (List.replicate (((os.map V.int).length : Nat) : Int).toNat [V.int (1 + r)]).flatten = (List.replicate os.length (1 + r)).map V.int := by
      rw [List.length_map, Int.toNat_natCast, List.map_replicate]
      induction os.length with
      | zero => rfl
      | succ n ih => rw [List.replicate_succ, List.flatten_cons, ih]; rfl
    have hl : upd H2 l (.lst (List.replicate (((os.map V.int).length : Nat) : Int).toNat [V.int (1 + r)]).flatten) l = some (.lst ((List.replicate os.length (1 + r)).map V.int)) := by rw [upd_same, e0]
    have la := S2.ne nl
    have lsc := S2.ne2 nl
    have S3 := S2.same sl
    have hOff : Same (Off a H) (Off l (Off a (upd H2 l (.lst (List.replicate (((os.map V.int).length : Nat) : Int).toNat [V.int (1 + r)]).flatten)))) := by
      rw [off_other la, off_upd, off_none (off_free nl)]
      exact K2
    generalize upd H2 l _ = H3 at sl hl S3 hOff ⊢
    have dv3 := dp_up sl dv2
    refine ⟨_, rfl, _, rfl, _, rfl, ?_⟩
    dsimp only [tNoPart]
    refine slice_go S3.hasA dv3 (fun z H4 s4 dz => ?_)
    replace dz : Dp K (Off a H4) z (.tuple (((intsD os).drop (HT.sIx (intsD os).length 0 (some ((1 : Nat) : Int)))).take ((intsD os).length - HT.sIx (intsD os).length 0 (some ((1 : Nat) : Int))))) := dz
    have edz : ((intsD os).drop (HT.sIx (intsD os).length 0 (some ((1 : Nat) : Int)))).take ((intsD os).length - HT.sIx (intsD os).length 0 (some ((1 : Nat) : Int))) = intsD (os.drop 1) := by
      rw [HT.sIx_nat, ints_len]
      by_cases z : os.length = 0
      · rw [List.eq_nil_of_length_eq_zero z]
        rfl
      · rw [show min 1 os.length = 1 by omega, ints_drop]
        exact List.take_of_length_le (by rw [ints_len, List.length_drop]; exact Nat.le_refl _)
    rw [edz] at dz
    obtain ⟨pz, ys, rfl, qz, rz⟩ := dp_tuple dz
    have ey := ints_dps rz
    subst ey
    have hl4 := s4.at hl
    have S4 := S3.same s4
    have hOff4 : Same (Off a H) (Off l (Off a H4)) := hOff.trans (off_mono (off_mono s4))
    have ql4 : SqT K H4 pl (os.map V.int) := same_seqT ((off_sub a H3).trans s4) (same_seqT (off_mono sl) ql)
    have plz : ∀ G, Same (Off l (Off a H4)) (Off l (Off a G)) → SqT K G pl (os.map V.int) ∧ SqT K G pz ((os.drop 1).map V.int) := fun G s => by
      have e1 : Same (Off l (Off a G)) G := (off_sub l _).trans (off_sub a G)
      refine ⟨same_seqT e1 (same_seqT s ?_), same_seqT e1 (same_seqT s ?_)⟩
      · refine same_seqT (hOff4) ?_
        obtain ⟨pl', xs', e', q', r'⟩ := dp_tuple dv
        cases e'
        rw [ints_dps r'] at q'
        exact q'
      · have ln : ∀ (xs : List V), SqT K (Off a H4) pz xs → SqT K (Off l (Off a H4)) pz xs := fun xs h => by
          rcases h with (h | ⟨o, h⟩) | h
          · refine .inl (.inl ?_)
            rw [off_ne (fun e => by rw [e, off_ne la, hl4] at h; cases h)]
            exact h
          · refine .inl (.inr ⟨o, ?_⟩)
            rw [off_ne (fun e => by rw [e, off_ne la, hl4] at h; cases h)]
            exact h
          · exact .inr h
        exact ln _ qz
    have p0 := plz H4 (Same.refl _)
    refine ⟨pl, pz, _, _, rfl, .inr ⟨p0.1, p0.2, ?_⟩⟩
    refine for_it (D := { nx := _, rt := Q }) (walk_zipT (K := K) (a := pl) (b := pz) (xs := os.map V.int) (ys := (os.drop 1).map V.int) (n := os.length - 1) (by rw [List.length_map, List.length_map, List.length_drop]; omega))
      (fun i σ G => ∃ (u3 u4 : Option V) (ns : List Int), σ = [some (.ref a), some (.ref pl), some (.ref l), u3, u4] ∧ Same (Off l (Off a H4)) (Off l (Off a G)) ∧ G l = some (.lst (ns.map V.int)) ∧ ns.length = os.length ∧ (∀ x ∈ ns, 1 ≤ x) ∧ Chn ns os (i + 1) ∧ Sto sc a (n + 1 + 2 * i) G)
      ?_ ?_ ?_ ?_
    · exact ⟨none, none, List.replicate os.length (1 + r), rfl, Same.refl _, hl4, List.length_replicate .., fun x hx => by rw [List.eq_of_mem_replicate hx]; omega, fun i hi => by omega, S4.more (by omega)⟩
    · exact fun i σ G _ ⟨_, _, _, _, sG, _⟩ => plz G sG
    · rintro i v1 σ G0 G hi ⟨u3, u4, ns, rfl, sG, lG, nl', pos, chn, SG⟩ ⟨TT, xv, yv, rfl, nT, rfl, ex, ey⟩
      dsimp only at ex ey
      rw [List.getElem?_map] at ex ey
      obtain ⟨xi, hx, rfl⟩ := Option.map_eq_some_iff.mp ex
      obtain ⟨yi, hy, rfl⟩ := Option.map_eq_some_iff.mp ey
      rw [List.getElem?_drop, Nat.add_comm] at hy
      have hi1 : i + 1 < os.length := (List.getElem?_eq_some_iff.mp hy).1
      have exi : ov os i = xi := Option.some.inj ((ov_get (by omega)).symm.trans hx)
      have eyi : ov os (i + 1) = yi := Option.some.inj ((ov_get hi1).symm.trans hy)
      have rx := ord.rng xi (List.mem_of_getElem? hx)
      have ry := ord.rng yi (List.mem_of_getElem? hy)
      have gT := same_new (o := .tup [V.int xi, V.int yi]) nT
      have qT : SqT K (upd G0 TT (.tup [V.int xi, V.int yi])) TT [V.int xi, V.int yi] := SqT.of upd_same
      have sG1 := sG.trans (off_mono (a := l) (off_mono (a := a) gT))
      have lG1 := gT.at lG
      have SG1 := SG.same gT
      generalize upd G0 TT (.tup [V.int xi, V.int yi]) = G at qT sG1 lG1 SG1 ⊢
      refine ⟨TT, _, rfl, qT, rfl, _, _, rfl, _, _, rfl, rfl, ?_⟩
      refine ⟨_, rfl, _, rfl, l, _, _, _, rfl, rfl, SqL.of lG1, atI_lv rx.1 (by omega), _, rfl, _, rfl, _, _, rfl, rfl, .inr ⟨_, rfl, _, _, rfl, rfl, ?_⟩⟩
      refine ⟨_, rfl, a, sc, 4, _, rfl, by decide, by decide, SG1, by omega, fun r1 G2 r10 r14 SG2 K2' => ?_⟩
      refine ⟨(by show 3 ≤ sizeLine; decide), fun q3 nq3 => ?_⟩
      have sq3 := same_new (o := .lst [.int 0, .int 0, .int r1]) nq3
      have qa := SG2.ne nq3
      refine ⟨_, rfl, a, sc, 3, _, rfl, by decide, by decide, SG2.same sq3, by omega, fun z G4 z0 z3 SG4 K4 => ?_⟩
      obtain ⟨av, hav, vav⟩ := atI_three (x0 := .int 0) (x1 := .int 0) (x2 := .int r1) z0 z3
      obtain ⟨ai, ai0, rfl⟩ : ∃ ai : Int, 0 ≤ ai ∧ av = .int ai := by
        rcases vav with rfl | rfl | rfl
        · exact ⟨_, by decide, rfl⟩
        · exact ⟨_, by decide, rfl⟩
        · exact ⟨_, r10, rfl⟩
      have KA : Kept a G G4 := (K2'.trans (kept_same sq3)).trans K4
      have lG4 := KA.at lG1 la
      refine ⟨q3, _, _, _, rfl, rfl, SqL.of (K4.at upd_same qa), hav, _, _, rfl, rfl, ?_⟩
      have hk : yi.toNat < ns.length := by omega
      refine ⟨_, rfl, _, rfl, l, _, _, yi.toNat, rfl, rfl, lG4, ixN_at ry.1 (by rw [List.length_map]; omega), ?_⟩
      refine ⟨_, _, ns.set yi.toNat (lv ns xi + (if decide (yi < xi) = true then 1 else 0) + ai), rfl, ?_, ?_, by rw [List.length_set, nl'], ?_, ?_, ?_⟩
      · rw [off_other la, off_upd]
        exact sG1.trans (off_mono KA)
      · rw [upd_same, List.map_set]
      · intro x hx'
        rcases List.mem_or_eq_of_mem_set hx' with h | rfl
        · exact pos x h
        · have p1 : 1 ≤ lv ns xi := by
            refine pos _ ?_
            unfold lv
            have hk2 : xi.toNat < ns.length := by omega
            rw [List.getD_eq_getElem?_getD, List.getElem?_eq_getElem hk2]
            exact List.getElem_mem hk2
          split <;> omega
      · intro j hj
        have nej : ∀ j', j' < os.length → j' ≠ i + 1 → ov os j' ≠ yi := fun j' h1 h2 e => h2 (ov_inj ord.nd h1 hi1 (by rw [e, eyi]))
        have keep : ∀ j', j' < os.length → j' ≠ i + 1 → lv (ns.set yi.toNat (lv ns xi + (if decide (yi < xi) = true then 1 else 0) + ai)) (ov os j') = lv ns (ov os j') := fun j' h1 h2 => by
          rw [lv_set hk (ord.rng _ (ov_mem h1)).1, if_neg (fun e => nej j' h1 h2 (by omega))]
        by_cases e : j = i
        · subst e
          unfold lnk
          rw [keep j (by omega) (by omega), exi, eyi, lv_set hk ry.1, if_pos (by omega)]
          have ne : xi ≠ yi := fun e => by
            have := ov_inj ord.nd (i := j) (j := j + 1) (by omega) hi1 (by rw [exi, eyi, e])
            omega
          by_cases z : yi < xi
          · rw [if_pos (decide_eq_true z)]
            omega
          · rw [if_neg (fun e => z (of_decide_eq_true e))]
            omega
        · unfold lnk
          rw [keep j (by omega) (by omega), keep (j + 1) (by omega) (by omega)]
          exact chn j (by omega)
      · exact (SG4.other la lsc).more (by push_cast; omega)
    · rintro σ G ⟨u3, u4, ns, rfl, sG, lG, nl', pos, chn, SG⟩
      refine ⟨_, rfl, l, _, rfl, .inl ⟨SqL.of lG, fun t nt => ?_⟩⟩
      have st := same_new (o := .tup (ns.map V.int)) nt
      have kG : Same (Off a H) (Off a G) := (hOff4.trans sG).trans (off_sub l _)
      refine k ns (.ref t) _ nl' pos (fun i hi => chn i (by omega)) ((SG.same st).more (by omega)) (kG.trans (off_mono st)) (.tup (a := t) (SqT.of ?_) dps_ints)
      rw [off_ne (SG.ne nt), upd_same]
def spBad (K : PySem.W.Frag) : Sp := fun vs H Q _ => ∃ (a sc : Addr) (n : Int) (v : V) (os : List Int), vs = [.ref a, v] ∧ Sto sc a n H ∧ n ≤ 800000 ∧ Dp K (Off a H) v (.tuple (intsD os)) ∧ os.length ≤ 41 ∧
  ∀ (l : Addr) (x : V) (d : PyData) (H' : Hp), Sto sc a (n + 10) H' → Kept a H H' → H' l = some (.lst [x, optV (orderPlace d)]) → Dp K (Off a H') x d → lenT d ≤ 41 → Q (.ref l) H'
theorem scBad : FnScope ["store", "order", "at", "entry", "bad", "place", "one"] ["store", "order"] (defScope sBad) := ⟨rfl, rfl, rfl, by decide +kernel, rfl, by decide +kernel, by decide +kernel⟩
theorem ok_bad (D : Df K mg "_law_bad" sBad ["store", "order"]) (B : Blt mg) (I : Cl P w K mg base CX0 1 "_law_is_int" ["value", "least"] (spInteger K)) (PK : Cl P w K mg base CX0 2 "_law_pick" ["store", "count"] spPick) : Cl P w K mg base CX0 3 "_law_bad" ["store", "order"] (spBad K) := by
  refine cl0 D scBad (fun vs H Q E h => ?_) (fun f cdv A outer s H vs Q E hr h => ?_)
  · obtain ⟨a, sc, n, v, os, rfl, _⟩ := h
    rfl
  · obtain ⟨a, sc, n, v, os, rfl, S, n1, dv, l41, k⟩ := h
    refine ⟨_, pss_cons (ps_if (PW.pt (pw_or (pt_cmpR (op_eqNilT (Nat.lt_of_succ_lt (hu_of hr))) (pv 1) (pe_tup pa_nil) (nomark _)) (pw_or1 (pt_cmpR op_eq (pc PK hr (by decide) (pa_cons (pv 0) (pa_cons pe_int pa_nil))) pe_int (nomark _)))))
        (pss_one (ps_ret (pe_lst (pa_cons (pe_ix ix_list (pe_lst (pa_cons (pe_callTy call_list_of (by rfl) B.list (by decide +kernel) (pa_cons (pv 1) pa_nil)) (pa_cons pe_non (pa_cons pe_int pa_nil)))) (pc PK hr (by decide) (pa_cons (pv 0) (pa_cons pe_int pa_nil))) (fun _ _ => rfl)) (pa_cons pe_int pa_nil))))) pss_nil)
      (pss_cons (ps_set (i := 2) scBad.nd rfl (Or.inl rfl) (pc PK hr (by decide) (pa_cons (pv 0) (pa_cons (pe_callB call_len_seq (by rfl) B.len PySem.boot_len (pa_cons (pv 1) pa_nil)) pa_nil))))
      (pss_cons (ps_set (i := 3) scBad.nd rfl (Or.inl rfl) (pe_ix ix_list (pe_lst (pa_cons (pe_ix ix_tup (pv 1) (pe_op op_sub (pv 2) pe_int) (fun _ _ => rfl)) (pa_cons (pe_callB call_len_seq (by rfl) B.len PySem.boot_len (pa_cons (pv 1) pa_nil)) (pa_cons (pe_un un_neg pe_int) (pa_cons pe_bl (pa_cons pe_non (pa_cons pe_str (pa_cons (pe_tup (pa_cons pe_int pa_nil)) pa_nil)))))))) (pc PK hr (by decide) (pa_cons (pv 0) (pa_cons pe_int pa_nil))) (fun _ _ => rfl)))
      (pss_cons (ps_set (i := 4) scBad.nd rfl (Or.inl rfl) (pe_op op_catA (pe_op op_catA (pe_slice sl_tupA (pv 1) po_none (po_some (pv 2))) (pe_tup (pa_cons (pv 3) pa_nil))) (pe_slice sl_tupA (pv 1) (po_some (pe_op op_add (pv 2) pe_int)) po_none)))
      (pss_cons (ps_for PassesOwn.never rfl (pi_enumT B.enum (pa_cons (pv 4) pa_nil)) (pg_tup rfl (pgs_cons (pg_name (i := 5) scBad.nd rfl (.inl rfl)) (pgs_cons (pg_name (i := 6) scBad.nd rfl (.inl rfl)) pgs_nil)))
        (pss_one (ps_if (PW.pt (pw_or (pt_not (pt_val (pc I hr (by decide) (pa_cons (pv 6) (pa_cons pe_int pa_nil))))) (pw_or (pt_cmpR op_ge (pv 6) (pe_callB call_len_seq (by rfl) B.len PySem.boot_len (pa_cons (pv 4) pa_nil)) (nomark _)) (pw_or1 (pt_cmpR op_in_seq (pv 6) (pe_slice sl_tupA (pv 4) po_none (po_some (pv 5))) (by rfl))))))
          (pss_one (ps_ret (pe_lst (pa_cons (pv 4) (pa_cons (pv 5) pa_nil))))) pss_nil)))
      (pss_one (ps_ret (pe_lst (pa_cons (pv 4) (pa_cons pe_non pa_nil))))))))), ?_⟩
    have dv0 := dv
    obtain ⟨pl, xs, rfl, ql, rl⟩ := dp_tuple dv
    have ex := ints_dps rl
    subst ex
    refine ⟨_, rfl, (by show 0 ≤ sizeLine; decide), fun q nq => ?_⟩
    have sq := same_new (o := .tup []) nq
    have hq : SqT K (upd H q (.tup [])) q [] := SqT.of upd_same
    have S1 := S.same sq
    have K1 : Kept a H (upd H q (.tup [])) := kept_same sq
    generalize upd H q (.tup []) = H1 at hq S1 K1 ⊢
    refine ⟨pl, q, _, rfl, rfl, same_seqT (off_sub a H1) (same_seqT K1 ql), hq, _, rfl, ?_⟩
    apply cutR (α := Hp → Prop) (F := fun R => ∀ H2, Kept a H H2 → Sto sc a (n + 1) H2 → R H2)
    · intro other
      cases he : (os.map V.int).isEmpty with
      | true => exact iteT (iteT (other H1 K1 (S1.more (by omega))))
      | false =>
      have opos : 0 < os.length := by
        cases os with
        | nil => cases he
        | cons x r => exact Nat.succ_pos _
      refine iteF ?_
      refine ⟨_, rfl, a, sc, 6, _, rfl, by decide, by decide, S1, by omega, fun r H2 r0 r6 S2 K2 => ?_⟩
      refine ⟨rfl, _, rfl, ite2 (fun _ => other H2 (K1.trans K2) S2) (fun _ => ?_)⟩
      clear other
      have K02 := K1.trans K2
      have ql2 := same_seqT (off_sub a H2) (same_seqT K02 ql)
      refine ⟨_, rfl, _, rfl, pl, _, rfl, .inr ql2, a, sc, _, _, rfl, by rw [List.length_map]; omega, by rw [List.length_map]; omega, S2, by omega, fun at_ H3 at0 at1 S3 K3 => ?_⟩
      rw [List.length_map] at at1
      obtain ⟨ix, rfl⟩ := Int.eq_ofNat_of_zero_le at0
      have K03 := K02.trans K3
      have ql3 := same_seqT (off_sub a H3) (same_seqT K03 ql)
      -- entry
      obtain ⟨y, hy, my⟩ := atI_neg (xs := os.map V.int) (r := (ix : Int) - 1) (by omega) (by rw [List.length_map]; omega) (by rw [List.length_map]; omega)
      obtain ⟨z, _, rfl⟩ := List.mem_map.mp my
      refine ⟨_, rfl, _, rfl, _, _, rfl, rfl, pl, _, _, _, rfl, rfl, ql3, hy, _, rfl, pl, _, rfl, .inr ql3, _, rfl, (by show 1 ≤ sizeLine; decide), fun t nt => ?_⟩
      have st := same_new (o := .tup [.int 0]) nt
      refine ⟨(by show 7 ≤ sizeLine; decide), fun q7 nq7 => ?_⟩
      have s7 := same_new (o := .lst [.int z, .int (((os.map V.int).length : Nat) : Int), .int (-1), .bl true, .non, .str ("0" : Str), .ref t]) nq7
      have ta := S3.ne nt
      have q7a := (S3.same st).ne nq7
      refine ⟨_, rfl, a, sc, 7, _, rfl, by decide, by decide, (S3.same st).same s7, by omega, fun r7 H4 r70 r77 S4 K4 => ?_⟩
      have hq7 := K4.at (upd_same (H := upd H3 t (.tup [.int 0])) (a := q7) (o := .lst [.int z, .int (((os.map V.int).length : Nat) : Int), .int (-1), .bl true, .non, .str ("0" : Str), .ref t])) q7a
      have ht := K4.at (s7.at (upd_same (H := H3) (a := t) (o := .tup [.int 0]))) ta
      have dt : Dp K (Off a H4) (.ref t) (.tuple [.int 0]) := .tup (SqT.of (by rw [off_ne ta]; exact ht)) (.cons (.int _) .nil)
      have K04 : Kept a H H4 := (K03.trans (kept_same (st.trans s7))).trans K4
      obtain ⟨ev, ed, hev, _, dev⟩ := atI_dp (K := K) (H := Off a H4) (xs := [V.int z, .int (((os.map V.int).length : Nat) : Int), .int (-1), .bl true, .non, .str ("0" : Str), .ref t]) (es := [.int z, .int (((os.map V.int).length : Nat) : Int), .int (-1), .bool true, .none, .str ("0" : Str), .tuple [.int 0]])
        (.cons (.int _) (.cons (.int _) (.cons (.int _) (.cons (.bl _) (.cons .non (.cons (.str _) (.cons dt .nil))))))) r70 r77
      refine ⟨q7, _, _, ev, rfl, rfl, SqL.of hq7, hev, ?_⟩
      clear hq7 ht dt s7 st nq7 nt
      have dv4 := dp_same K04 dv0
      -- bad
      refine ⟨_, rfl, _, rfl, _, rfl, slice_go S4.hasA dv4 (fun z1 G1 s1 d1 => ?_)⟩
      refine ⟨_, rfl, (by show 1 ≤ sizeLine; decide), fun t2 m2 => ?_⟩
      have S5 := S4.same s1
      have s2 := same_new (o := .tup [ev]) m2
      have d2 : Dp K (Off a (upd G1 t2 (.tup [ev]))) (.ref t2) (.tuple [ed]) := .tup (a := t2) (SqT.of (by rw [off_ne (S5.ne m2)]; exact upd_same)) (.cons (dp_up (s1.trans s2) dev) .nil)
      have S6 := S5.same s2
      have e1 : HT.sIx (intsD os).length (intsD os).length (some (ix : Int)) = ix := by rw [HT.sIx_nat, ints_len]; omega
      have e3 : HT.sIx (intsD os).length 0 none = 0 := rfl
      have e2 : HT.sIx (intsD os).length 0 (some ((ix : Int) + 1)) = ix + 1 := by
        show HT.sIx (intsD os).length 0 (some ((ix + 1 : Nat) : Int)) = ix + 1
        rw [HT.sIx_nat, ints_len]
        omega
      have e4 : HT.sIx (intsD os).length (intsD os).length none = (intsD os).length := rfl
      rw [e1, e3] at d1
      refine cat_go S6.hasA (dp_up s2 d1) d2 ?_ (fun z3 G3 s3 d3 => ?_)
      · simp only [List.length_take, List.length_drop, List.length_cons, List.length_nil, ints_len]
        omega
      refine ⟨_, rfl, _, rfl, _, _, rfl, rfl, _, rfl, ?_⟩
      dsimp only [tNoPart]
      have s123 := (s1.trans s2).trans s3
      refine slice_go (S6.same s3).hasA (dp_up s123 dv4) (fun z4 G4 s4 d4 => ?_)
      rw [e2, e4] at d4
      refine cat_go ((S6.same s3).same s4).hasA (dp_up s4 d3) d4 ?_ (fun z5 G5 s5 d5 => ?_)
      · simp only [List.length_append, List.length_take, List.length_drop, List.length_cons, List.length_nil, ints_len]
        omega
      have S7 := ((S6.same s3).same s4).same s5
      have K05 : Kept a H G5 := K04.trans (kept_same ((s123.trans s4).trans s5))
      have lb : (((intsD os).drop 0).take (ix - 0) ++ [ed] ++ ((intsD os).drop (ix + 1)).take ((intsD os).length - (ix + 1))).length = os.length := by
        simp only [List.length_append, List.length_take, List.length_drop, List.length_cons, List.length_nil, ints_len]
        omega
      generalize ((intsD os).drop 0).take (ix - 0) ++ [ed] ++ ((intsD os).drop (ix + 1)).take ((intsD os).length - (ix + 1)) = ds at d5 lb
      have d5' := d5
      obtain ⟨pj, ws, rfl, qj, rj⟩ := dp_tuple d5
      have wl := dps_len rj
      have lp : orderPlace (.tuple ds) = match badOrd ds.length [] 0 ds with
        | some i => some (i : Int)
        | none => none := rfl
      have dO := off_sub a G5
      refine ⟨_, rfl, pj, ws, rfl, same_seqT dO qj, for_it (walk_enumT (K := K) (a := pj) (xs := ws)) (fun i σ G => ∃ (u5 u6 : Option V) (pre : List Int), σ = [some (.ref a), some (.ref pl), some (.int (ix : Nat)), some ev, some (.ref pj), u5, u6] ∧ Same G5 G ∧ ds.take i = intsD pre ∧ badOrd ds.length [] 0 ds = badOrd ds.length pre i (ds.drop i))
        ⟨_, _, [], rfl, Same.refl G5, rfl, rfl⟩ (fun i σ G _ ⟨_, _, _, _, s1, _⟩ => same_seqT s1 (same_seqT dO qj)) ?_ ?_⟩
      · rintro i v1 σ G G2 hi ⟨u5, u6, pre, rfl, sA, ep, eb⟩ ⟨TT, x1, y1, rfl, nT, rfl, ex, ey⟩
        cases ex
        obtain ⟨d1', hd1, dp1⟩ := dps_getV rj ey
        have sB := sA.trans (same_new (o := .tup [V.int (i : Nat), y1]) nT)
        have dr : ds.drop i = d1' :: ds.drop (i + 1) := by
          obtain ⟨h1, h2⟩ := List.getElem?_eq_some_iff.mp hd1
          rw [List.drop_eq_getElem_cons h1, h2]
        rw [dr] at eb
        have fin : ∀ G', Same G5 G' → badOrd ds.length pre i (d1' :: ds.drop (i + 1)) = some i → (2 ≤ sizeLine) ∧ ∀ p, G' p = none → Q (.ref p) (upd G' p (.lst [.ref pj, .int (i : Int)])) := fun G' s' hb => ⟨by decide, fun p np => by
          have sp := same_new (o := .lst [.ref pj, .int (i : Int)]) np
          refine k p (.ref pj) (.tuple ds) _ ((S7.same (s'.trans sp)).more (by omega)) (K05.trans (kept_same (s'.trans sp))) ?_ (dp_up (s'.trans sp) d5') (by show ds.length ≤ 41; omega)
          rw [upd_same, lp, eb, hb]
          rfl⟩
        have dp2 := dp_same (dO.trans sB) dp1
        refine ⟨TT, _, rfl, SqT.of upd_same, rfl, _, _, rfl, _, _, rfl, rfl, ?_⟩
        refine ⟨_, rfl, y1, d1', 0, rfl, dp2, _, rfl, ?_⟩
        cases hb : integerD 0 d1' with
        | false =>
          refine iteT (iteT ⟨_, rfl, _, rfl, ?_⟩)
          exact fin _ sB (bad_other hb)
        | true =>
          obtain ⟨iv, rfl, iv0⟩ := int_of0 hb
          have e1 := dp_int dp1
          subst e1
          rw [bad_step rfl] at eb fin
          refine iteF ⟨_, rfl, _, rfl, pj, ws, rfl, .inr (same_seqT (dO.trans sB) qj), _, _, rfl, rfl, _, rfl, ?_⟩
          rw [wl]
          refine ite2 (fun hz => ?_) (fun hz => ?_)
          · have z : (ds.length : Int) ≤ iv := of_decide_eq_true hz
            refine iteT ⟨_, rfl, _, rfl, ?_⟩
            exact fin _ sB (if_neg (by omega))
          have z : iv < (ds.length : Int) := Int.not_le.mp fun e => hz (decide_eq_true e)
          refine ⟨_, rfl, _, rfl, _, rfl, _, rfl, slice_go0 (dp_same (dO.trans sB) d5') (fun z3 G3 s3 d3 => ?_)⟩
          have il : i ≤ ds.length := by omega
          replace d3 : Dp K G3 z3 (.tuple ((ds.drop 0).take (HT.sIx ds.length ds.length (some (i : Int)) - 0))) := d3
          rw [sl_to il, List.drop_zero, Nat.sub_zero, ep] at d3
          obtain ⟨p3, ys, rfl, q3, r3⟩ := dp_tuple d3
          have e3 := ints_dps r3
          subst e3
          refine ⟨p3, _, rfl, .inr q3, rfl, flat_ints pre, _, rfl, ?_⟩
          rw [inV_ints]
          refine ite2 (fun hm => ?_) (fun hm => ?_)
          · have hm := of_decide_eq_true hm
            refine ⟨_, rfl, _, rfl, ?_⟩
            exact fin _ (sB.trans s3) (if_neg (fun z => z.2.2 hm))
          · have hm : iv ∉ pre := fun e => hm (decide_eq_true e)
            rw [if_pos ⟨iv0, z, hm⟩] at eb
            refine ⟨_, _, pre ++ [iv], rfl, sB.trans s3, ?_, eb⟩
            rw [List.take_add_one, hd1, ep]
            unfold intsD
            rw [List.map_append]
            rfl
      · rintro σ G ⟨u5, u6, pre, rfl, sA, ep, eb⟩
        rw [wl, List.drop_length] at eb
        replace eb : badOrd ds.length [] 0 ds = none := eb
        refine ⟨_, rfl, (by show 2 ≤ sizeLine; decide), fun p np => ?_⟩
        have sp := same_new (o := .lst [.ref pj, .non]) np
        refine k p (.ref pj) (.tuple ds) _ ((S7.same (sA.trans sp)).more (by omega)) (K05.trans (kept_same (sA.trans sp))) ?_ (dp_up (sA.trans sp) d5') (by show ds.length ≤ 41; omega)
        rw [upd_same, lp, eb]
        rfl
    · intro H2 K2 S2
      have ql2 := same_seqT (off_sub a H2) (same_seqT K2 ql)
      have dv2 := dp_same K2 dv0
      refine ⟨_, rfl, pl, _, rfl, .inr ql2, fun l1 nl1 => ?_⟩
      have s1 := same_new (o := .lst (os.map V.int)) nl1
      refine ⟨(by show 3 ≤ sizeLine; decide), fun q1 nq1 => ?_⟩
      have s2 := same_new (o := .lst [.ref l1, .non, .int 7]) nq1
      have q1a := (S2.same s1).ne nq1
      have l1a := S2.ne nl1
      refine ⟨_, rfl, a, sc, 3, _, rfl, by decide, by decide, (S2.same s1).same s2, by omega, fun r H3 r0 r3 S3 K3 => ?_⟩
      have hq1 := K3.at (upd_same (H := upd H2 l1 (.lst (os.map V.int))) (a := q1) (o := .lst [.ref l1, .non, .int 7])) q1a
      have hl1 := K3.at (s2.at (upd_same (H := H2) (a := l1) (o := .lst (os.map V.int)))) l1a
      obtain ⟨av, hav, vav⟩ := atI_three (x0 := .ref l1) (x1 := .non) (x2 := .int 7) r0 r3
      refine ⟨q1, _, _, av, rfl, rfl, SqL.of hq1, hav, (by show 2 ≤ sizeLine; decide), fun q2 nq2 => ?_⟩
      have s4 := same_new (o := .lst [av, .int 0]) nq2
      have KA : Kept a H (upd H3 q2 (.lst [av, .int 0])) := ((K2.trans (kept_same (s1.trans s2))).trans K3).trans (kept_same s4)
      have dl : Dp K (Off a (upd H3 q2 (.lst [av, .int 0]))) (.ref l1) (.list (intsD os)) := .lst (SqL.of (by rw [off_ne l1a]; exact s4.at hl1)) dps_ints
      obtain ⟨d, hd, hp, hl⟩ : ∃ d, Dp K (Off a (upd H3 q2 (.lst [av, .int 0]))) av d ∧ orderPlace d = some 0 ∧ lenT d ≤ 41 := by
        rcases vav with rfl | rfl | rfl
        · exact ⟨_, dl, rfl, Nat.zero_le _⟩
        · exact ⟨_, .non, rfl, Nat.zero_le _⟩
        · exact ⟨_, .int 7, rfl, Nat.zero_le _⟩
      exact k q2 av d _ ((S3.same s4).more (by omega)) KA (by rw [upd_same, hp]; rfl) hd hl
end
end Vk
namespace Vk
open PySem PySem.Spec PyProof.Rows L2 GxR RZ
theorem passE0 {X : Cx} : Passes (L2.CX X.prog X.w) X E0 := fun _ _ _ _ _ _ _ ⟨_, _, _, _, _, _, _, _, _, _, _, _, h⟩ => False.elim h
theorem sh_two {s : Str} {i : Int} (h : PyData.strOk s = true) : SeqAt.shaped (.tuple [.str s, .int i]) = true := by
  simp [SeqAt.shaped, PyData.canLay0, PyData.canLayAll0, PyData.depth, PyData.depthAll, h]
theorem eqv_self (xs : List Int) : PyData.eqv (.tuple (intsD xs)) (.tuple (intsD xs)) = true := SeqAt.eqv_refl _ (SeqAt.canLay_of_shaped (shaped_ints xs))
theorem ints_set {ls : List Int} {i : Nat} {x : Int} (h : i < ls.length) : intsD (ls.take i) ++ [PyData.int x] ++ intsD (ls.drop (i + 1)) = intsD (ls.set i x) := by
  rw [List.set_eq_take_append_cons_drop, if_pos h, List.append_assoc]
  show intsD _ ++ intsD (x :: ls.drop (i + 1)) = _
  rw [ints_app]
theorem less_set {ls : List Int} {j : Nat} {x : Int} (hj : j < ls.length) : ((intsD ls).drop 0).take (j - 0) ++ [PyData.int x] ++ ((intsD ls).drop (j + 1)).take ((intsD ls).length - (j + 1)) = intsD (ls.set j x) := by
  have e1 : ((intsD ls).drop (j + 1)).take ((intsD ls).length - (j + 1)) = intsD (ls.drop (j + 1)) := by
    rw [ints_drop]
    exact List.take_of_length_le (by rw [ints_len, ints_len, List.length_drop]; exact Nat.le_refl _)
  rw [e1, List.drop_zero, Nat.sub_zero, ints_take, ints_set hj]
theorem lv_at {ls : List Int} {i : Nat} (h : i < ls.length) : ls[i]? = some (lv ls (i : Int)) := by
  unfold lv
  rw [Int.toNat_natCast, List.getD_eq_getElem?_getD, List.getElem?_eq_getElem h]
  rfl
section
variable {P : Program} {w : World} {K : PySem.W.Frag} {mg : Str → Option Value} {base : Heap}
def spError (K : PySem.W.Frag) : Sp := fun vs H Q _ => ∃ (v : V) (d : PyData) (p : Int), vs = [v] ∧ Dp K H v d ∧ lenT d ≤ 900 ∧ orderPlace d = some p ∧ ∀ v' H', Same H H' → Dp K H' v' (.tuple [.str "order", .int p]) → Q v' H'
theorem scError : FnScope ["order", "caught", "e"] ["order"] (defScope sError) := ⟨rfl, rfl, rfl, by decide +kernel, rfl, by decide +kernel, by decide +kernel⟩
theorem ok_error {C : Addr} (D : Df K mg "_law_error" sError ["order"]) (B : Blt mg) (N : Kn K mg C 6) (LE : Cl P w K mg base (L2.CX P w) 4 "least_lengths" ["order"] (spLeast K C)) (KI : Cl P w K mg base CX0 1 "_law_kind" ["caught"] (spKind C 6)) : Cl P w K mg base CX0 5 "_law_error" ["order"] (spError K) := by
  refine cl0 D scError (fun vs H Q E h => ?_) (fun f cdv A outer s H vs Q E hr h => ?_)
  · obtain ⟨v, d, p, rfl, _⟩ := h
    rfl
  · obtain ⟨v, d, p, rfl, hd, l9, op, k⟩ := h
    obtain ⟨S, mS, _, exm⟩ := N.se
    obtain ⟨fC, fdC, mC, kpC, bC, FC⟩ := LE.ex
    refine ⟨_, pss_cons (ps_set (i := 1) scError.nd rfl (Or.inl rfl) pe_non)
      (pss_cons (ps_try_keep (i := 2) (c := .ref S) (tb := fun W => tDrop (tCallS (spLeast K C) (WE W) (tCons (tVar 0) tNil))) (ts := fun _ _ _ => tAsg (tVar 2) (gName 1)) rfl rfl rfl scError.nd rfl rfl rfl mS (by decide)
          (fun W pn xe tk _ => pss_one (ps_expr (by exact (pe_callS FC hr rfl mC kpC bC (fun σ => passAt tk σ) (by exact (pa_cons (pv 0) pa_nil))))))
          (fun a oe cls d pn _ _ => pss_one (ps_set (i := 1) scError.nd rfl (Or.inl rfl) (by exact (pv 2)))))
      (pss_one (ps_ret (pe_ifExp (pt_cmpR op_isN (pv 1) pe_non (nomark _)) pe_non (pc KI hr (by decide) (pa_cons (pv 1) pa_nil)))))), ?_⟩
    refine ⟨_, rfl, v, d, rfl, hd, l9, fun os e io => absurd (op.symm.trans (show orderPlace d = none by rw [e]; exact order_none io)) (fun z => nomatch z), fun p2 e dx H2 s2 hx => ?_⟩
    rw [op] at e
    cases e
    refine ⟨exm, fun a na => ⟨_, rfl, fun na2 => ?_⟩⟩
    have s12 := s2.trans (same_new (o := Xco a (.ref C) (some dx)) na2)
    have hx3 : upd H2 a (Xco a (.ref C) (some dx)) dx = some (.xd [(("place" : Str), .int p)]) := by
      rw [upd_ne (ne_of_none hx na2)]
      exact hx
    refine ⟨_, rfl, rfl, _, rfl, iteF ?_⟩
    refine ⟨_, rfl, a, dx, _, rfl, upd_same, hx3, fun t H4 s4 ht => ?_⟩
    exact k _ _ (s12.trans s4) (.tup (SqT.of ht) (.cons (.str _) (.cons (.int _) .nil)))
def spLaw (K : PySem.W.Frag) : Sp := fun vs H Q _ => ∃ (a : Addr) (ns : List Int), vs = [.ref a] ∧ SqL K H a (ns.map V.int) ∧ ns.length ≤ 63 ∧ ∀ H', Q (.bl true) H'
theorem scLaw : FnScope ["script", "store", "turn", "order", "found", "at", "less", "k", "more", "bad", "one", "other"] ["script"] (defScope sLaw) := ⟨rfl, rfl, rfl, by decide +kernel, rfl, by decide +kernel, by decide +kernel⟩
theorem ok_law {f C C2 : Addr} {fd : FuncData} (F : Fun K "law" "law" sLaw f fd) (B : Blt mg) (zp : mg "zip" = none) (ST : Cl P w K mg base CX0 1 "_law_store" ["script"] (spStore K)) (PK : Cl P w K mg base CX0 2 "_law_pick" ["store", "count"] spPick) (OO : Cl P w K mg base CX0 3 "_law_order_of" ["store", "count"] (spOrderOf K))
    (LO : Cl P w K mg base CX0 3 "_law_longer" ["store", "order"] (spLonger K)) (BD : Cl P w K mg base CX0 3 "_law_bad" ["store", "order"] (spBad K)) (ER : Cl P w K mg base CX0 5 "_law_error" ["order"] (spError K)) (IL : Cl P w K mg base CX0 1 "_law_is_int" ["value", "least"] (spInteger K))
    (LE : Cl P w K mg base (L2.CX P w) 4 "least_lengths" ["order"] (spLeast K C)) (RO : Cl P w K mg base (L2.CX P w) 5 "robin_order" ["lengths"] (spRobOrder K C2)) :
    FnOk P w K mg base CX0 6 f fd ["script"] (spLaw K) := by
  refine F.ok scLaw (fun vs H Q E h => ?_) (fun cdv A outer s H vs Q E hr h => ?_)
  · obtain ⟨a, ns, rfl, _⟩ := h
    rfl
  · obtain ⟨a, ns, rfl, hS, hlen, k⟩ := h
    obtain ⟨fC, fdC, mC, kpC, bC, FC⟩ := LE.ex
    obtain ⟨fR, fdR, mR, kpR, bR, FR⟩ := RO.ex
    refine ⟨_, pss_cons (ps_set (i := 1) scLaw.nd rfl (Or.inl rfl) (pc ST hr (by decide) (pa_cons (pv 0) pa_nil)))
      (pss_cons (ps_for PassesOwn.never rfl (pi_range1 rfl B.range (pa_cons pe_int pa_nil)) (pg_name (i := 2) scLaw.nd rfl (Or.inl rfl))
        (pss_cons (ps_set (i := 3) scLaw.nd rfl (Or.inl rfl) (pc OO hr (by decide) (pa_cons (pv 1) (pa_cons (pc PK hr (by decide) (pa_cons (pv 1) (pa_cons (pe_ix ix_list (pe_lst (pa_cons pe_int (pa_cons pe_int pa_nil))) (pe_op op_mod (pv 2) pe_int) (fun _ _ => rfl)) pa_nil))) pa_nil))))
        (pss_cons (ps_set (i := 4) scLaw.nd rfl (Or.inl rfl) (pe_call (E := E0) FC (hr.mono (by decide)) rfl mC kpC bC .nil passE0 (pa_cons (pv 3) pa_nil)))
        (pss_cons (ps_if (PW.pt (pw_or (pt_not (pt_val (pe_callB call_isi (by rfl) B.isi (by decide +kernel) (pa_cons (pv 4) (pa_cons (pe_bltn (v := .ty "tuple") (u := .type "tuple") (by rfl) B.tuple (by decide +kernel) rfl) pa_nil))))) (pw_or (pt_cmpR op_ne (pe_callB call_len_seq (by rfl) B.len PySem.boot_len (pa_cons (pv 4) pa_nil)) (pe_callB call_len_seq (by rfl) B.len PySem.boot_len (pa_cons (pv 3) pa_nil)) (nomark _)) (pw_or1 (pt_cmpR (op_neD hr.units) (pe_call (E := E0) FR hr rfl mR kpR bR .nil passE0 (pa_cons (pv 4) pa_nil)) (pv 3) (nomark _)))))) (pss_one (ps_ret pe_bl)) pss_nil)
        (pss_cons (ps_if (pt_cmpR (op_neNilL (Nat.lt_of_succ_lt (hu_of hr))) (pe_lc (own := [("one", 10)]) (g := gName 10) (tt := tNot (tB (tCal (spInteger K) (tCons (tVar 10) (tCons (tC (.int 1)) tNil))))) (te := tVar 10) (by rfl) scLaw.nd (pi_tup (pv 4))
            (blkOk_by (own := [("one", 10)]) (N := ["script", "store", "turn", "order", "found", "at", "less", "k", "more", "bad", "one", "other"]) (sc := defScope sLaw) (by decide +kernel))
            (fun _ _ _ _ _ => pg_name (i := 10) scLaw.nd rfl (Or.inl rfl)) (fun _ _ _ _ _ => pts_one (pt_not (pt_val (pc IL hr (by decide) (pa_cons (pv 10) (pa_cons pe_int pa_nil)))))) (fun _ _ _ _ _ => pv 10)) (pe_lst pa_nil) (nomark _)) (pss_one (ps_ret pe_bl)) pss_nil)
        (pss_cons (ps_for PassesOwn.never rfl (pi_range1 rfl B.range (pa_cons (pe_callB call_len_seq (by rfl) B.len PySem.boot_len (pa_cons (pv 4) pa_nil)) pa_nil)) (pg_name (i := 5) scLaw.nd rfl (Or.inl rfl))
          (pss_cons (ps_set (i := 6) scLaw.nd rfl (Or.inl rfl) (pe_op op_catA (pe_op op_catA (pe_slice sl_tupA (pv 4) po_none (po_some (pv 5))) (pe_tup (pa_cons (pe_op op_sub (pe_ix ix_tup (pv 4) (pv 5) (fun _ _ => rfl)) pe_int) pa_nil))) (pe_slice sl_tupA (pv 4) (po_some (pe_op op_add (pv 5) pe_int)) po_none)))
          (pss_one (ps_if (PW.pt (pw_and (pt_cmpR op_gt (pe_ix ix_tup (pv 4) (pv 5) (fun _ _ => rfl)) pe_int (nomark _)) (pw_and1 (pt_cmpR (op_eqD hr.units) (pe_call (E := E0) FR hr rfl mR kpR bR .nil passE0 (pa_cons (pv 6) pa_nil)) (pv 3) (nomark _))))) (pss_one (ps_ret pe_bl)) pss_nil))))
        (pss_cons (ps_for PassesOwn.never rfl (pi_range1 rfl B.range (pa_cons pe_int pa_nil)) (pg_name (i := 7) scLaw.nd rfl (Or.inl rfl))
          (pss_cons (ps_set (i := 8) scLaw.nd rfl (Or.inl rfl) (pc LO hr (by decide) (pa_cons (pv 1) (pa_cons (pv 3) pa_nil))))
          (pss_one (ps_if (PW.pt (pw_or (pt_cmpR (op_neD hr.units) (pe_call (E := E0) FR hr rfl mR kpR bR .nil passE0 (pa_cons (pv 8) pa_nil)) (pv 3) (nomark _))
            (pw_or1 (pt_cmpR (op_neNilL (Nat.lt_of_succ_lt (hu_of hr))) (pe_lc (own := [("one", 10), ("other", 11)]) (g := gTup K 2 (gCons (gName 10) (gCons (gName 11) gNil))) (tt := tTest (tOp (rI0 fun i j => .bl (decide (j < i))) (tVar 10) (tVar 11))) (te := tC (.int 1)) (by rfl) scLaw.nd (pi_zipA (by rfl) zp (pa_cons (pv 4) (pa_cons (pv 8) pa_nil)))
              (blkOk_by (own := [("one", 10), ("other", 11)]) (N := ["script", "store", "turn", "order", "found", "at", "less", "k", "more", "bad", "one", "other"]) (sc := defScope sLaw) (by decide +kernel))
              (fun _ _ _ _ _ => pg_tup rfl (pgs_cons (pg_name (i := 10) scLaw.nd rfl (Or.inl rfl)) (pgs_cons (pg_name (i := 11) scLaw.nd rfl (Or.inl rfl)) pgs_nil))) (fun _ _ _ _ _ => pts_one (pt_cmpR op_gt (pv 10) (pv 11) (nomark _))) (fun _ _ _ _ _ => pe_int)) (pe_lst pa_nil) (nomark _))))) (pss_one (ps_ret pe_bl)) pss_nil))))
        (pss_cons (ps_asg (pc BD hr (by decide) (pa_cons (pv 1) (pa_cons (pv 3) pa_nil))) (pg_lst rfl (pgs_cons (pg_name (i := 9) scLaw.nd rfl (.inl rfl)) (pgs_cons (pg_name (i := 5) scLaw.nd rfl (.inl rfl)) pgs_nil))))
        (pss_one (ps_if (PW.pt (pw_and (pt_cmpR op_notN (pv 5) pe_non (nomark _)) (pw_and1 (pt_cmpR (op_neD hr.units) (pc ER hr (by decide) (pa_cons (pv 9) pa_nil)) (pe_tup (pa_cons pe_str (pa_cons (pv 5) pa_nil))) (nomark _))))) (pss_one (ps_ret pe_bl)) pss_nil))))))))))
      (pss_one (ps_ret (pe_and (pe_cmpR (op_eqD hr.units) (pe_call (E := E0) FC (hr.mono (by decide)) rfl mC kpC bC .nil passE0 (pa_cons (pe_tup pa_nil) pa_nil)) (pe_tup pa_nil) (nomark _))
        (pe_one (pe_cmpR (op_eqD hr.units) (pe_call (E := E0) FC (hr.mono (by decide)) rfl mC kpC bC .nil passE0 (pa_cons (pe_tup (pa_cons pe_int (pa_cons pe_int (pa_cons pe_int pa_nil)))) pa_nil)) (pe_tup (pa_cons pe_int (pa_cons pe_int (pa_cons pe_int pa_nil)))) (nomark _))))))), ?_⟩
    refine ⟨_, rfl, a, ns, rfl, hS, hlen, fun st_ sc H1 s1 nst S1 => ?_⟩
    refine ⟨4, rfl, by decide, by decide, ?_⟩
    refine for_range (lo := 0) (n := 4) (fun i σ G => ∃ (u2 u3 u4 u5 u6 u7 u8 u9 : Option V), σ = [some (.ref a), some (.ref st_), u2, u3, u4, u5, u6, u7, u8, u9, none, none] ∧ Sto sc st_ (1000 * i) G)
      ⟨none, none, none, none, none, none, none, none, rfl, S1.more (by omega)⟩ ?_ ?_
    · rintro i σ G hi ⟨u2, u3, u4, u5, u6, u7, u8, u9, rfl, SG⟩
      -- order
      refine ⟨_, rfl, _, rfl, (by show 2 ≤ sizeLine; decide), fun q nq => ?_⟩
      have sq := same_new (o := .lst [.int 9, .int 41]) nq
      obtain ⟨mo, hmo, mo0, mo12⟩ : ∃ mo : Int, atI [V.int 9, .int 41] (((0 : Int) + (i : Nat)) % 2) = some (.int mo) ∧ 0 < mo ∧ mo ≤ 41 := by
        rw [Int.zero_add]
        match i, hi with
        | 0, _ => exact ⟨9, rfl, by decide, by decide⟩
        | 1, _ => exact ⟨41, rfl, by decide, by decide⟩
        | 2, _ => exact ⟨9, rfl, by decide, by decide⟩
        | 3, _ => exact ⟨41, rfl, by decide, by decide⟩
      refine ⟨_, rfl, _, _, rfl, rfl, (by show (0 : Int) < 2; decide), q, _, _, _, rfl, rfl, SqL.of upd_same, hmo, st_, sc, mo, _, rfl, mo0, by omega, SG.same sq, by omega, fun r G1 r0 r1 SG1 KG1 => ?_⟩
      refine ⟨st_, sc, _, r, rfl, SG1, by omega, r0, by omega, fun os v G2 io lo SG2 KG2 dv => ?_⟩
      have l41 : os.length ≤ 41 := by omega
      -- found
      refine ⟨_, rfl, v, .tuple (intsD os), rfl, dp_on dv, by show (intsD os).length ≤ 900; rw [ints_len]; omega, fun os2 e _ ls fv G3 lst s3 df dfa => ?_, fun p e => absurd (e.symm.trans (order_none io)) (fun z => nomatch z)⟩
      have e2 := ints_inj (PyData.tuple.inj e)
      subst e2
      have SG3 := SG2.same s3
      have df3 := dfa st_ SG2.hasA
      have dv3 := dp_up s3 dv
      have lpos := lst_pos io lst
      have lchn := lst_chn io lst
      have llen := lst.1
      obtain ⟨pf, fs, rfl, qf, rf⟩ := dp_tuple df3
      have ef := ints_dps rf
      subst ef
      obtain ⟨po, xs, rfl, qo, ro⟩ := dp_tuple dv3
      have eo := ints_dps ro
      subst eo
      clear df dfa
      generalize G3 = G3' at s3 SG3 df3 dv3 qf rf qo ro ⊢
      refine ⟨_, rfl, .ref pf, _, _, _, _, rfl, .ty "tuple", dp_ty (dp_on df3), kit_tup (dp_on df3), _, rfl, iteF ?_⟩
      refine ⟨_, rfl, pf, _, rfl, .inr (same_seqT (off_sub st_ G3') qf), _, rfl, po, _, rfl, .inr (same_seqT (off_sub st_ G3') qo), rfl, _, rfl, ?_⟩
      rw [List.length_map, List.length_map, llen, decide_eq_true rfl]
      refine iteF ?_
      refine ⟨_, rfl, .ref pf, .tuple (intsD ls), rfl, dp_on df3, by show (intsD ls).length ≤ 900; rw [ints_len]; omega, fun ls2 e _ us uv G4 iu lu cu s4 du => ?_, fun p e => absurd (e.symm.trans (rob_fine lpos)) (fun z => nomatch z)⟩
      have e3 := ints_inj (PyData.tuple.inj e)
      subst e3
      have eu : us = os := ord_uniq iu io (by omega) cu (by rw [← llen] at lchn ⊢; rw [llen] at lchn ⊢; exact lchn)
      subst eu
      refine ⟨_, rfl, _, _, du, dp_on (dp_up s4 dv3), shaped_ints us, shaped_ints us, _, rfl, ?_⟩
      rw [eqv_self]
      refine iteF ?_
      have df4 := dp_up s4 df3
      have dv4 := dp_up s4 dv3
      have SG4 := SG3.same s4
      have qf4 : SqT K (Off st_ G4) pf (ls.map V.int) := same_seqT (off_mono s4) qf
      have qo4 : SqT K (Off st_ G4) po (us.map V.int) := same_seqT (off_mono s4) qo
      have of4 := off_sub st_ G4
      -- all are integers
      refine ⟨_, rfl, pf, rfl, ⟨_, same_seqT of4 qf4⟩, fun D1 nD1 => ?_⟩
      refine lc_it (walk_tup (K := K) (a := pf) (xs := ls.map V.int)) (fun m Hc => Same G4 Hc ∧ Hc D1 = some (.lst []))
        ⟨same_new nD1, upd_same⟩ (fun m Hc _ ⟨t3, _⟩ => same_seqT (of4.trans t3) qf4) ?_ ?_
      · rintro m y1 Hc0 Hc hm ⟨t3, hD⟩ ⟨rfl, hy1⟩
        rw [List.getElem?_map] at hy1
        obtain ⟨x, hx, rfl⟩ := Option.map_eq_some_iff.mp hy1
        have hp := lpos x (List.mem_of_getElem? hx)
        refine ⟨rfl, ?_⟩
        refine ⟨_, rfl, .int x, .int x, 1, rfl, .int _, ?_⟩
        rw [show integerD 1 (.int x) = true from decide_eq_true hp]
        exact ⟨_, rfl, iteF ⟨t3, hD⟩⟩
      rintro G5 ⟨t5, hD1⟩
      refine ⟨(by show 0 ≤ sizeLine; decide), fun q5 nq5 => ?_⟩
      have s5 := same_new (o := .lst []) nq5
      refine ⟨D1, q5, [], rfl, rfl, SqL.of (s5.at hD1), SqL.of upd_same, _, rfl, iteF ?_⟩
      have t45 := t5.trans s5
      have df5 := dp_up t45 df4
      have dv5 := dp_up t45 dv4
      have SG5 := SG4.same t45
      have qf5 : SqT K (Off st_ (upd G5 q5 (.lst []))) pf (ls.map V.int) := same_seqT (off_mono t45) qf4
      generalize upd G5 q5 (.lst []) = G6 at df5 dv5 SG5 qf5 ⊢
      have of6 := off_sub st_ G6
      -- one less
      refine ⟨_, rfl, pf, _, rfl, .inr (same_seqT of6 qf5), _, rfl, by rw [List.length_map]; omega, by rw [List.length_map]; omega, ?_⟩
      refine for_range (lo := 0) (n := (((ls.map V.int).length : Nat) : Int).toNat) (fun j σ J => ∃ (u5 u6 : Option V), σ = [some (.ref a), some (.ref st_), some (.int (0 + i)), some (.ref po), some (.ref pf), u5, u6, u7, u8, u9, none, none] ∧ Same G6 J)
        ⟨_, _, rfl, Same.refl G6⟩ ?_ ?_
      · rintro j σ J hj ⟨w5, w6, rfl, sJ⟩
        rw [List.length_map, Int.toNat_natCast] at hj
        have dfJ := dp_same (of6.trans sJ) df5
        have dvJ := dp_same (of6.trans sJ) dv5
        have qfJ := same_seqT (of6.trans sJ) qf5
        have e1 : HT.sIx (intsD ls).length (intsD ls).length (some ((0 : Int) + (j : Int))) = j := by rw [Int.zero_add, HT.sIx_nat, ints_len]; omega
        have e3 : HT.sIx (intsD ls).length 0 none = 0 := rfl
        have e2 : HT.sIx (intsD ls).length 0 (some ((0 : Int) + (j : Int) + 1)) = j + 1 := by
          rw [Int.zero_add]
          show HT.sIx (intsD ls).length 0 (some ((j + 1 : Nat) : Int)) = j + 1
          rw [HT.sIx_nat, ints_len]
          omega
        have e4 : HT.sIx (intsD ls).length (intsD ls).length none = (intsD ls).length := rfl
        have hat : atI (ls.map V.int) ((0 : Int) + (j : Int)) = some (.int (lv ls (j : Int))) := by
          rw [Int.zero_add]
          exact atI_lv (by omega) (by omega)
        refine ⟨_, rfl, _, rfl, _, rfl, slice_go0 dfJ (fun z1 J1 s1' d1 => ?_)⟩
        rw [e1, e3] at d1
        refine ⟨_, rfl, _, rfl, pf, _, _, _, rfl, rfl, same_seqT s1' qfJ, hat, _, _, rfl, rfl, (by show 1 ≤ sizeLine; decide), fun t2 m2 => ?_⟩
        have s2 := same_new (o := .tup [.int (lv ls (j : Int) - 1)]) m2
        have d2 := nt0 (K := K) (vs := [.int (lv ls (j : Int) - 1)]) m2 (.cons (.int _) .nil)
        refine cat_go0 (dp_same s2 d1) d2 ?_ (fun z3 J3 s3' d3 => ?_)
        · simp only [List.length_take, List.length_drop, List.length_cons, List.length_nil, ints_len]
          omega
        refine ⟨_, rfl, _, rfl, _, _, rfl, rfl, _, rfl, ?_⟩
        dsimp only [tNoPart]
        have s123 := (s1'.trans s2).trans s3'
        refine slice_go0 (dp_same s123 dfJ) (fun z4 J4 s4' d4 => ?_)
        rw [e2, e4] at d4
        refine cat_go0 (dp_same s4' d3) d4 ?_ (fun z5 J5 s5' d5 => ?_)
        · simp only [List.length_append, List.length_take, List.length_drop, List.length_cons, List.length_nil, ints_len]
          omega
        have sAll := (s123.trans s4').trans s5'
        have ed : ((intsD ls).drop 0).take (j - 0) ++ [PyData.int (lv ls (j : Int) - 1)] ++ ((intsD ls).drop (j + 1)).take ((intsD ls).length - (j + 1)) = intsD (ls.set j (lv ls (j : Int) - 1)) := by
          exact less_set hj
        rw [ed] at d5
        have ll5 : (ls.set j (lv ls (j : Int) - 1)).length = ls.length := List.length_set ..
        refine ⟨_, rfl, _, rfl, pf, _, _, _, rfl, rfl, same_seqT sAll qfJ, hat, _, _, rfl, rfl, _, rfl, ?_⟩
        refine ite2 (fun hz => ?_) (fun _ => iteF ⟨_, _, rfl, sJ.trans sAll⟩)
        have hz : 1 < lv ls (j : Int) := of_decide_eq_true hz
        have pos5 : ∀ x ∈ ls.set j (lv ls (j : Int) - 1), 1 ≤ x := fun x hx => by
          rcases List.mem_or_eq_of_mem_set hx with h | rfl
          · exact lpos x h
          · omega
        refine ⟨_, rfl, z5, .tuple (intsD (ls.set j (lv ls (j : Int) - 1))), rfl, d5, by show (intsD _).length ≤ 900; rw [ints_len, ll5]; omega, fun ls3 e _ ws wv J6 iw lw cw s6 dw => ?_, fun p e => absurd (e.symm.trans (rob_fine pos5)) (fun z => nomatch z)⟩
        have e4' := ints_inj (PyData.tuple.inj e)
        subst e4'
        refine ⟨_, rfl, _, _, dw, dp_same (sAll.trans s6) dvJ, shaped_ints ws, shaped_ints us, _, rfl, ?_⟩
        cases hb : PyData.eqv (.tuple (intsD ws)) (.tuple (intsD us)) with
        | false => exact iteF ⟨_, _, rfl, (sJ.trans sAll).trans s6⟩
        | true =>
          have ew := eqvs_ints hb
          subst ew
          have z := lst_le io lst (ms := ls.set j (lv ls (j : Int) - 1)) (by rw [ll5]; exact llen) pos5 cw hj
          rw [lv_set hj (by omega), if_pos rfl] at z
          omega
      rintro σ J ⟨w5, w6, rfl, sJ⟩
      have dfJ := dp_up sJ df5
      have dvJ := dp_up sJ dv5
      have SJ := SG5.same sJ
      have qfJ : SqT K (Off st_ J) pf (ls.map V.int) := same_seqT (off_mono sJ) qf5
      -- longer ones
      refine ⟨3, rfl, by decide, by decide, ?_⟩
      refine for_range (lo := 0) (n := 3) (fun j σ L => ∃ (u7 u8 : Option V), σ = [some (.ref a), some (.ref st_), some (.int (0 + i)), some (.ref po), some (.ref pf), w5, w6, u7, u8, u9, none, none] ∧ Sto sc st_ (1000 * i + 100 + 101 * j) L ∧ Kept st_ J L)
        ⟨_, _, rfl, SJ.more (by omega), Kept.refl st_ J⟩ ?_ ?_
      · rintro j σ L hj ⟨w7, w8, rfl, SL, KL⟩
        refine ⟨_, rfl, _, rfl, st_, sc, _, .ref po, us, rfl, SL, by omega, dp_same KL dvJ, io, l41, fun ms mv L1 lm pm cm SL1 KL1 dm => ?_⟩
        have KL2 := KL.trans KL1
        have dv1 := dp_same KL2 dvJ
        have qf1 := same_seqT KL2 qfJ
        refine ⟨_, rfl, mv, .tuple (intsD ms), rfl, dp_on dm, by show (intsD ms).length ≤ 900; rw [ints_len]; omega, fun ms2 e _ ws wv L2' iw lw cw s6 dw => ?_, fun p e => absurd (e.symm.trans (rob_fine pm)) (fun z => nomatch z)⟩
        have e4' := ints_inj (PyData.tuple.inj e)
        subst e4'
        have ew : ws = us := ord_uniq iw io (by omega) cw cm
        subst ew
        refine ⟨_, rfl, _, _, dw, dp_on (dp_up s6 dv1), shaped_ints ws, shaped_ints ws, _, rfl, ?_⟩
        rw [eqv_self]
        refine iteF ?_
        obtain ⟨pm', ys, rfl, qm, rm⟩ := dp_tuple (dp_up s6 dm)
        have em := ints_dps rm
        subst em
        have of7 := off_sub st_ L2'
        have qf2 := same_seqT (off_mono (a := st_) s6) qf1
        refine ⟨_, rfl, _, rfl, pf, pm', _, _, rfl, .inr ⟨same_seqT of7 qf2, same_seqT of7 qm, fun D7 nD7 => ?_⟩⟩
        refine lc_it (walk_zipT (K := K) (a := pf) (b := pm') (xs := ls.map V.int) (ys := ms.map V.int) (n := ls.length) (by rw [List.length_map, List.length_map]; omega)) (fun m Hc => Same L2' Hc ∧ Hc D7 = some (.lst []))
          ⟨same_new nD7, upd_same⟩ (fun m Hc _ ⟨t3, _⟩ => ⟨same_seqT (of7.trans t3) qf2, same_seqT (of7.trans t3) qm⟩) ?_ ?_
        · rintro m v1 Hc G2 hm ⟨t3, hD⟩ ⟨TT, x1, y1, rfl, nT, rfl, ex, ey⟩
          dsimp only at ex ey
          rw [List.getElem?_map, lv_at hm] at ex
          cases ex
          rw [List.getElem?_map, lv_at (by omega)] at ey
          cases ey
          have gT := same_new (o := .tup [V.int (lv ls (m : Int)), V.int (lv ms (m : Int))]) nT
          refine ⟨TT, _, rfl, SqT.of upd_same, rfl, _, _, rfl, _, _, rfl, rfl, rfl, ?_⟩
          refine ⟨_, rfl, _, rfl, _, _, rfl, rfl, _, rfl, ?_⟩
          have z := lst_le io lst (ms := ms) lm pm cm hm
          rw [decide_eq_false (show ¬ lv ms (m : Int) < lv ls (m : Int) by omega)]
          exact iteF ⟨t3.trans gT, gT.at hD⟩
        rintro L3 ⟨t7, hD7⟩
        refine ⟨(by show 0 ≤ sizeLine; decide), fun q8 nq8 => ?_⟩
        have s8 := same_new (o := .lst []) nq8
        refine ⟨D7, q8, [], rfl, rfl, SqL.of (s8.at hD7), SqL.of upd_same, _, rfl, iteF ?_⟩
        have sA := (s6.trans t7).trans s8
        exact ⟨_, _, rfl, (SL1.same sA).more (by push_cast; omega), KL2.trans (kept_same sA)⟩
      rintro σ L ⟨w7, w8, rfl, SL, KL⟩
      -- wrong ones
      refine ⟨_, rfl, _, rfl, st_, sc, _, .ref po, us, rfl, SL, by omega, dp_same KL dvJ, l41, fun bl bx bd L1 SL1 KL1 hbl dbd lbd => ?_⟩
      refine ⟨bl, _, rfl, SqL.of hbl, rfl, _, _, rfl, _, _, rfl, rfl, ?_⟩
      cases hp : orderPlace bd with
      | none => exact ⟨_, rfl, rfl, _, rfl, iteF (iteF ⟨_, _, _, _, _, _, _, _, rfl, SL1.more (by push_cast; omega)⟩)⟩
      | some p =>
        refine ⟨_, rfl, rfl, _, rfl, iteT ?_⟩
        refine ⟨_, rfl, bx, bd, p, rfl, dp_on dbd, by omega, hp, fun ev L2' s2 dev => ?_⟩
        refine ⟨_, rfl, (by show 2 ≤ sizeLine; decide), fun t3 m3 => ?_⟩
        have s3 := same_new (o := .tup [.str ("order" : Str), .int p]) m3
        have d3 := nt0 (K := K) (vs := [.str ("order" : Str), .int p]) m3 (.cons (.str _) (.cons (.int _) .nil))
        have sh := sh_two (s := "order") (i := p) (by decide +kernel)
        refine ⟨_, _, dp_same s3 dev, d3, sh, sh, _, rfl, ?_⟩
        rw [SeqAt.eqv_refl _ (SeqAt.canLay_of_shaped sh)]
        exact iteF ⟨_, _, _, _, _, _, _, _, rfl, (SL1.same (s2.trans s3)).more (by push_cast; omega)⟩
    · rintro σ G ⟨u2, u3, u4, u5, u6, u7, u8, u9, rfl, SG⟩
      refine ⟨(by show 0 ≤ sizeLine; decide), fun p1 n1 => ?_⟩
      have d1 := nt0 (K := K) (vs := []) n1 .nil
      have i0 : IsOrd [] := ⟨fun v h => absurd h (by simp), List.nodup_nil⟩
      refine ⟨.ref p1, .tuple (intsD []), rfl, d1, by decide, fun os e _ ls v H2 lst s2 dv _ => ?_, fun p e => absurd (e.symm.trans (order_none i0)) (fun z => nomatch z)⟩
      have e2 := ints_inj (PyData.tuple.inj e)
      subst e2
      have e3 : ls = [] := List.eq_nil_of_length_eq_zero lst.1
      subst e3
      refine ⟨(by show 0 ≤ sizeLine; decide), fun p3 n3 => ?_⟩
      have d3 := nt0 (K := K) (vs := []) n3 .nil
      refine ⟨_, _, dp_same (same_new n3) dv, d3, shaped_ints [], shaped_ints [], _, rfl, ?_⟩
      rw [show PyData.eqv (.tuple (intsD [])) (.tuple []) = true from eqv_self []]
      refine iteT ?_
      refine ⟨(by show 3 ≤ sizeLine; decide), fun p4 n4 => ?_⟩
      have d4 : Dp K _ (.ref p4) (.tuple (intsD [1, 0, 2])) := nt0 (K := K) (vs := [.int 1, .int 0, .int 2]) n4 (.cons (.int _) (.cons (.int _) (.cons (.int _) .nil)))
      have i1 : IsOrd [1, 0, 2] := ⟨by decide, by decide⟩
      refine ⟨.ref p4, .tuple (intsD [1, 0, 2]), rfl, d4, by decide, fun os e _ ls v H5 lst s5 dv5 _ => ?_, fun p e => absurd (e.symm.trans (order_none i1)) (fun z => nomatch z)⟩
      have e2 := ints_inj (PyData.tuple.inj e)
      subst e2
      have e3 : ls = [2, 1, 2] := by
        obtain ⟨l3, hj⟩ := lst
        match ls, l3 with
        | [x, y, z], _ =>
          have h0 : y = 1 := hj 0 (by decide)
          have h1 : x = 2 := hj 1 (by decide)
          have h2 : z = 2 := hj 2 (by decide)
          rw [h0, h1, h2]
      subst e3
      refine ⟨(by show 3 ≤ sizeLine; decide), fun p6 n6 => ?_⟩
      have d6 : Dp K _ (.ref p6) (.tuple (intsD [2, 1, 2])) := nt0 (K := K) (vs := [.int 2, .int 1, .int 2]) n6 (.cons (.int _) (.cons (.int _) (.cons (.int _) .nil)))
      refine ⟨_, _, dp_same (same_new n6) dv5, d6, shaped_ints [2, 1, 2], shaped_ints [2, 1, 2], ?_⟩
      show Q (.bl (PyData.eqv _ _)) _
      rw [eqv_self]
      exact k _
end
end Vk
namespace Vk
open PySem PySem.Spec PyProof.Rows L2

theorem all_mk {l : PySem.W.OpenLaw} {w : World} {K : PySem.W.Frag} {h : Heap} {mg : Str → Option Value} {fa : Addr} (X : K.In h) (G : h.Ns mainGlobals mg) (hfa : mg "law" = some (.ref fa))
    {f0 : Addr} {oc0 kV0 dc0 pm0 cd0 ct0 : Value} {od0 an0 : Option Addr} {sl0 : Array (Option Value)}
    {f1 : Addr} {oc1 kV1 dc1 pm1 cd1 ct1 : Value} {od1 an1 : Option Addr} {sl1 : Array (Option Value)}
    {f2 : Addr} {oc2 kV2 dc2 pm2 cd2 ct2 : Value} {od2 an2 : Option Addr} {sl2 : Array (Option Value)}
    {f3 : Addr} {oc3 kV3 dc3 pm3 cd3 ct3 : Value} {od3 an3 : Option Addr} {sl3 : Array (Option Value)}
    {f4 : Addr} {oc4 kV4 dc4 pm4 cd4 ct4 : Value} {od4 an4 : Option Addr} {sl4 : Array (Option Value)}
    {f5 : Addr} {oc5 kV5 dc5 pm5 cd5 ct5 : Value} {od5 an5 : Option Addr} {sl5 : Array (Option Value)}
    {f6 : Addr} {oc6 kV6 dc6 pm6 cd6 ct6 : Value} {od6 an6 : Option Addr} {sl6 : Array (Option Value)}
    {f7 : Addr} {oc7 kV7 dc7 pm7 cd7 ct7 : Value} {od7 an7 : Option Addr} {sl7 : Array (Option Value)}
    {f8 : Addr} {oc8 kV8 dc8 pm8 cd8 ct8 : Value} {od8 an8 : Option Addr} {sl8 : Array (Option Value)}
    {f9 : Addr} {oc9 kV9 dc9 pm9 cd9 ct9 : Value} {od9 an9 : Option Addr} {sl9 : Array (Option Value)}
    {f10 : Addr} {oc10 kV10 dc10 pm10 cd10 ct10 : Value} {od10 an10 : Option Addr} {sl10 : Array (Option Value)}
    {f11 : Addr} {oc11 kV11 dc11 pm11 cd11 ct11 : Value} {od11 an11 : Option Addr} {sl11 : Array (Option Value)}
    {f12 : Addr} {oc12 kV12 dc12 pm12 cd12 ct12 : Value} {od12 an12 : Option Addr} {sl12 : Array (Option Value)}
    {f13 : Addr} {oc13 kV13 dc13 pm13 cd13 ct13 : Value} {od13 an13 : Option Addr} {sl13 : Array (Option Value)}
    {f14 : Addr} {oc14 kV14 dc14 pm14 cd14 ct14 : Value} {od14 an14 : Option Addr} {sl14 : Array (Option Value)}
    {f15 : Addr} {oc15 kV15 dc15 pm15 cd15 ct15 : Value} {od15 an15 : Option Addr} {sl15 : Array (Option Value)}
    {S : Addr}
    {E0 : Addr}
    {E1 : Addr}
    {E2 : Addr}
    {E3 : Addr}
    {E4 : Addr}
    {E5 : Addr}
    {E6 : Addr}
    {E7 : Addr}
    {E8 : Addr}
    {E9 : Addr}
    {E10 : Addr}
    {E11 : Addr}
    {fI2 : Addr} {nm2 q2 : Str} {N2 : Addr} {bs2 sb2 : List Value} {sn2 : List Str} {ab2 : Bool} {col2 : Option Bool} {dd2 : Option Addr} {m02 m12 m22 m32 m52 : Option Value} {ocI2 kVI2 dcI2 pmI2 cdI2 ctI2 : Value} {odI2 anI2 : Option Addr} {slI2 : Array (Option Value)}
    {fI6 : Addr} {nm6 q6 : Str} {N6 : Addr} {bs6 sb6 : List Value} {sn6 : List Str} {ab6 : Bool} {col6 : Option Bool} {dd6 : Option Addr} {m06 m16 m26 m36 m56 : Option Value} {ocI6 kVI6 dcI6 pmI6 cdI6 ctI6 : Value} {odI6 anI6 : Option Addr} {slI6 : Array (Option Value)}
    (a0 : PySem.W.nsIn K mainGlobals "is_integer" = some (some (.ref f0)))
    (l0 : K.lookup f0 = some ⟨oc0, od0, .func (PySem.W.fnOf "is_integer" "is_integer" (defArgs sInteger) (defBody sInteger) (defScope sInteger) .none kV0 dc0 pm0 an0 cd0 ct0), sl0⟩)
    (c0 : PySem.W.codeIn K cd0 "is_integer" = true)
    (k0 : PySem.W.keepIn K (.ref f0) = true)
    (a1 : PySem.W.nsIn K mainGlobals "check_lengths" = some (some (.ref f1)))
    (l1 : K.lookup f1 = some ⟨oc1, od1, .func (PySem.W.fnOf "check_lengths" "check_lengths" (defArgs sCheckLen) (defBody sCheckLen) (defScope sCheckLen) .none kV1 dc1 pm1 an1 cd1 ct1), sl1⟩)
    (c1 : PySem.W.codeIn K cd1 "check_lengths" = true)
    (k1 : PySem.W.keepIn K (.ref f1) = true)
    (a2 : PySem.W.nsIn K mainGlobals "robin_order" = some (some (.ref f2)))
    (l2 : K.lookup f2 = some ⟨oc2, od2, .func (PySem.W.fnOf "robin_order" "robin_order" (defArgs sRobOrder) (defBody sRobOrder) (defScope sRobOrder) .none kV2 dc2 pm2 an2 cd2 ct2), sl2⟩)
    (c2 : PySem.W.codeIn K cd2 "robin_order" = true)
    (k2 : PySem.W.keepIn K (.ref f2) = true)
    (a3 : PySem.W.nsIn K mainGlobals "least_lengths" = some (some (.ref f3)))
    (l3 : K.lookup f3 = some ⟨oc3, od3, .func (PySem.W.fnOf "least_lengths" "least_lengths" (defArgs sLeast) (defBody sLeast) (defScope sLeast) .none kV3 dc3 pm3 an3 cd3 ct3), sl3⟩)
    (c3 : PySem.W.codeIn K cd3 "least_lengths" = true)
    (k3 : PySem.W.keepIn K (.ref f3) = true)
    (a4 : PySem.W.nsIn K mainGlobals "check_robin" = some (some (.ref f4)))
    (l4 : K.lookup f4 = some ⟨oc4, od4, .func (PySem.W.fnOf "check_robin" "check_robin" (defArgs sCheckRob) (defBody sCheckRob) (defScope sCheckRob) .none kV4 dc4 pm4 an4 cd4 ct4), sl4⟩)
    (c4 : PySem.W.codeIn K cd4 "check_robin" = true)
    (k4 : PySem.W.keepIn K (.ref f4) = true)
    (a5 : PySem.W.nsIn K mainGlobals "check_order" = some (some (.ref f5)))
    (l5 : K.lookup f5 = some ⟨oc5, od5, .func (PySem.W.fnOf "check_order" "check_order" (defArgs sCheckOrd) (defBody sCheckOrd) (defScope sCheckOrd) .none kV5 dc5 pm5 an5 cd5 ct5), sl5⟩)
    (c5 : PySem.W.codeIn K cd5 "check_order" = true)
    (k5 : PySem.W.keepIn K (.ref f5) = true)
    (a6 : PySem.W.nsIn K mainGlobals "_law_mix" = some (some (.ref f6)))
    (l6 : K.lookup f6 = some ⟨oc6, od6, .func (PySem.W.fnOf "_law_mix" "_law_mix" (defArgs sMix) (defBody sMix) (defScope sMix) .none kV6 dc6 pm6 an6 cd6 ct6), sl6⟩)
    (c6 : PySem.W.codeIn K cd6 "_law_mix" = true)
    (k6 : PySem.W.keepIn K (.ref f6) = true)
    (a7 : PySem.W.nsIn K mainGlobals "_law_store" = some (some (.ref f7)))
    (l7 : K.lookup f7 = some ⟨oc7, od7, .func (PySem.W.fnOf "_law_store" "_law_store" (defArgs sStore) (defBody sStore) (defScope sStore) .none kV7 dc7 pm7 an7 cd7 ct7), sl7⟩)
    (c7 : PySem.W.codeIn K cd7 "_law_store" = true)
    (k7 : PySem.W.keepIn K (.ref f7) = true)
    (a8 : PySem.W.nsIn K mainGlobals "_law_pick" = some (some (.ref f8)))
    (l8 : K.lookup f8 = some ⟨oc8, od8, .func (PySem.W.fnOf "_law_pick" "_law_pick" (defArgs sPick) (defBody sPick) (defScope sPick) .none kV8 dc8 pm8 an8 cd8 ct8), sl8⟩)
    (c8 : PySem.W.codeIn K cd8 "_law_pick" = true)
    (k8 : PySem.W.keepIn K (.ref f8) = true)
    (a9 : PySem.W.nsIn K mainGlobals "_law_is_int" = some (some (.ref f9)))
    (l9 : K.lookup f9 = some ⟨oc9, od9, .func (PySem.W.fnOf "_law_is_int" "_law_is_int" (defArgs sInt) (defBody sInt) (defScope sInt) .none kV9 dc9 pm9 an9 cd9 ct9), sl9⟩)
    (c9 : PySem.W.codeIn K cd9 "_law_is_int" = true)
    (k9 : PySem.W.keepIn K (.ref f9) = true)
    (a10 : PySem.W.nsIn K mainGlobals "_law_kind" = some (some (.ref f10)))
    (l10 : K.lookup f10 = some ⟨oc10, od10, .func (PySem.W.fnOf "_law_kind" "_law_kind" (defArgs sKind) (defBody sKind) (defScope sKind) .none kV10 dc10 pm10 an10 cd10 ct10), sl10⟩)
    (c10 : PySem.W.codeIn K cd10 "_law_kind" = true)
    (k10 : PySem.W.keepIn K (.ref f10) = true)
    (a11 : PySem.W.nsIn K mainGlobals "_law_order_of" = some (some (.ref f11)))
    (l11 : K.lookup f11 = some ⟨oc11, od11, .func (PySem.W.fnOf "_law_order_of" "_law_order_of" (defArgs sOrderOf) (defBody sOrderOf) (defScope sOrderOf) .none kV11 dc11 pm11 an11 cd11 ct11), sl11⟩)
    (c11 : PySem.W.codeIn K cd11 "_law_order_of" = true)
    (k11 : PySem.W.keepIn K (.ref f11) = true)
    (a12 : PySem.W.nsIn K mainGlobals "_law_longer" = some (some (.ref f12)))
    (l12 : K.lookup f12 = some ⟨oc12, od12, .func (PySem.W.fnOf "_law_longer" "_law_longer" (defArgs sLonger) (defBody sLonger) (defScope sLonger) .none kV12 dc12 pm12 an12 cd12 ct12), sl12⟩)
    (c12 : PySem.W.codeIn K cd12 "_law_longer" = true)
    (k12 : PySem.W.keepIn K (.ref f12) = true)
    (a13 : PySem.W.nsIn K mainGlobals "_law_bad" = some (some (.ref f13)))
    (l13 : K.lookup f13 = some ⟨oc13, od13, .func (PySem.W.fnOf "_law_bad" "_law_bad" (defArgs sBad) (defBody sBad) (defScope sBad) .none kV13 dc13 pm13 an13 cd13 ct13), sl13⟩)
    (c13 : PySem.W.codeIn K cd13 "_law_bad" = true)
    (k13 : PySem.W.keepIn K (.ref f13) = true)
    (a14 : PySem.W.nsIn K mainGlobals "_law_error" = some (some (.ref f14)))
    (l14 : K.lookup f14 = some ⟨oc14, od14, .func (PySem.W.fnOf "_law_error" "_law_error" (defArgs sError) (defBody sError) (defScope sError) .none kV14 dc14 pm14 an14 cd14 ct14), sl14⟩)
    (c14 : PySem.W.codeIn K cd14 "_law_error" = true)
    (k14 : PySem.W.keepIn K (.ref f14) = true)
    (a15 : PySem.W.nsIn K mainGlobals "law" = some (some (.ref f15)))
    (l15 : K.lookup f15 = some ⟨oc15, od15, .func (PySem.W.fnOf "law" "law" (defArgs sLaw) (defBody sLaw) (defScope sLaw) .none kV15 dc15 pm15 an15 cd15 ct15), sl15⟩)
    (c15 : PySem.W.codeIn K cd15 "law" = true)
    (k15 : PySem.W.keepIn K (.ref f15) = true)
    (z_len : PySem.W.nsIn K mainGlobals "len" = some none)
    (z_isinstance : PySem.W.nsIn K mainGlobals "isinstance" = some none)
    (z_int : PySem.W.nsIn K mainGlobals "int" = some none)
    (z_bool : PySem.W.nsIn K mainGlobals "bool" = some none)
    (z_tuple : PySem.W.nsIn K mainGlobals "tuple" = some none)
    (z_str : PySem.W.nsIn K mainGlobals "str" = some none)
    (z_range : PySem.W.nsIn K mainGlobals "range" = some none)
    (z_enumerate : PySem.W.nsIn K mainGlobals "enumerate" = some none)
    (z_list : PySem.W.nsIn K mainGlobals "list" = some none)
    (z_min : PySem.W.nsIn K mainGlobals "min" = some none)
    (z_sorted : PySem.W.nsIn K mainGlobals "sorted" = some none)
    (z_zip : PySem.W.nsIn K mainGlobals "zip" = some none)
    (aS : PySem.W.nsIn K mainGlobals "SlotError" = some (some (.ref S)))
    (iS : PySem.W.isClsIn K S = true)
    (hS : PySem.W.hasDictIn K S = true)
    (tS : PySem.W.typeIn K (.ref S) = some (.type "type"))
    (eS : PySem.W.subIn K (.ref S) (.type "BaseException") = some true)
    (spG : PySem.W.specialIn K (.builtin "object.__class__") "__get__" = some (some (.builtin "getset_descriptor.__get__")))
    (tkG : PySem.W.takesIn K (.builtin "object.__class__") = some true)
    (zVE : PySem.W.nsIn K mainGlobals "ValueError" = some none)
    (aE0 : PySem.W.nsIn K mainGlobals "NoJobs" = some (some (.ref E0)))
    (iE0 : PySem.W.isClsIn K E0 = true)
    (tE0 : PySem.W.typeIn K (.ref E0) = some (.type "type"))
    (aE1 : PySem.W.nsIn K mainGlobals "NoRule" = some (some (.ref E1)))
    (iE1 : PySem.W.isClsIn K E1 = true)
    (tE1 : PySem.W.typeIn K (.ref E1) = some (.type "type"))
    (aE2 : PySem.W.nsIn K mainGlobals "NoLengths" = some (some (.ref E2)))
    (iE2 : PySem.W.isClsIn K E2 = true)
    (tE2 : PySem.W.typeIn K (.ref E2) = some (.type "type"))
    (aE3 : PySem.W.nsIn K mainGlobals "NoLog" = some (some (.ref E3)))
    (iE3 : PySem.W.isClsIn K E3 = true)
    (tE3 : PySem.W.typeIn K (.ref E3) = some (.type "type"))
    (aE4 : PySem.W.nsIn K mainGlobals "NoMarks" = some (some (.ref E4)))
    (iE4 : PySem.W.isClsIn K E4 = true)
    (tE4 : PySem.W.typeIn K (.ref E4) = some (.type "type"))
    (aE5 : PySem.W.nsIn K mainGlobals "NoNamed" = some (some (.ref E5)))
    (iE5 : PySem.W.isClsIn K E5 = true)
    (tE5 : PySem.W.typeIn K (.ref E5) = some (.type "type"))
    (aE6 : PySem.W.nsIn K mainGlobals "NoOrder" = some (some (.ref E6)))
    (iE6 : PySem.W.isClsIn K E6 = true)
    (tE6 : PySem.W.typeIn K (.ref E6) = some (.type "type"))
    (aE7 : PySem.W.nsIn K mainGlobals "NoText" = some (some (.ref E7)))
    (iE7 : PySem.W.isClsIn K E7 = true)
    (tE7 : PySem.W.typeIn K (.ref E7) = some (.type "type"))
    (aE8 : PySem.W.nsIn K mainGlobals "NoNumber" = some (some (.ref E8)))
    (iE8 : PySem.W.isClsIn K E8 = true)
    (tE8 : PySem.W.typeIn K (.ref E8) = some (.type "type"))
    (aE9 : PySem.W.nsIn K mainGlobals "NoName" = some (some (.ref E9)))
    (iE9 : PySem.W.isClsIn K E9 = true)
    (tE9 : PySem.W.typeIn K (.ref E9) = some (.type "type"))
    (aE10 : PySem.W.nsIn K mainGlobals "NoUndo" = some (some (.ref E10)))
    (iE10 : PySem.W.isClsIn K E10 = true)
    (tE10 : PySem.W.typeIn K (.ref E10) = some (.type "type"))
    (aE11 : PySem.W.nsIn K mainGlobals "NoLine" = some (some (.ref E11)))
    (iE11 : PySem.W.isClsIn K E11 = true)
    (tE11 : PySem.W.typeIn K (.ref E11) = some (.type "type"))
    (x2_ : K.lookup E2 = some (excClassObj nm2 q2 E2 N2 bs2 [.ref S, .type "ValueError", .type "Exception", .type "BaseException", .type "object"] true sn2 sb2 ab2 col2 dd2 m02 m12 m22 m32 m52 "ValueError.__new__"))
    (sa2 : PySem.W.findIn K (.ref E2) "__setattr__" = some (some (.builtin "object.__setattr__")))
    (ga2 : PySem.W.findIn K (.ref E2) "__getattribute__" = some (some (.builtin "BaseException.__getattribute__")))
    (gg2 : PySem.W.findIn K (.ref E2) "__getattr__" = some none)
    (np2 : PySem.W.findIn K (.ref E2) "place" = some none)
    (in2 : PySem.W.findIn K (.ref E2) "__init__" = some (some (.ref fI2)))
    (ti2 : PySem.W.typeIn K (.ref fI2) = some (.type "function"))
    (li2 : K.lookup fI2 = some ⟨ocI2, odI2, .func (PySem.W.fnOf "__init__" "NoLengths.__init__" (defArgs sLenInit) (defBody sLenInit) (defScope sLenInit) .none kVI2 dcI2 pmI2 anI2 cdI2 ctI2), slI2⟩)
    (ci2 : PySem.W.codeIn K cdI2 "NoLengths.__init__" = true)
    (ki2 : PySem.W.keepIn K (.ref fI2) = true)
    (kc2 : PySem.W.keepIn K (.ref E2) = true)
    (ec2 : PySem.W.subIn K (.ref E2) (.type "BaseException") = some true)
    (hc2 : PySem.W.hasDictIn K E2 = true)
    (cc2 : PySem.W.findIn K (.ref E2) "__class__" = some (some (.builtin "object.__class__")))
    (mc2 : PySem.W.mroIn K E2 (.type "object") = some true)
    (vc2 : PySem.W.subIn K (.ref E2) (.type "ValueError") = some true)
    (sc2 : PySem.W.subIn K (.ref E2) (.ref S) = some true)
    (s2_0 : PySem.W.subIn K (.ref E2) (.ref E0) = some false)
    (n2_0 : (Value.ref E2 == Value.ref E0) = false)
    (s2_1 : PySem.W.subIn K (.ref E2) (.ref E1) = some false)
    (n2_1 : (Value.ref E2 == Value.ref E1) = false)
    (s2_3 : PySem.W.subIn K (.ref E2) (.ref E3) = some false)
    (n2_3 : (Value.ref E2 == Value.ref E3) = false)
    (s2_4 : PySem.W.subIn K (.ref E2) (.ref E4) = some false)
    (n2_4 : (Value.ref E2 == Value.ref E4) = false)
    (s2_5 : PySem.W.subIn K (.ref E2) (.ref E5) = some false)
    (n2_5 : (Value.ref E2 == Value.ref E5) = false)
    (s2_6 : PySem.W.subIn K (.ref E2) (.ref E6) = some false)
    (n2_6 : (Value.ref E2 == Value.ref E6) = false)
    (s2_7 : PySem.W.subIn K (.ref E2) (.ref E7) = some false)
    (n2_7 : (Value.ref E2 == Value.ref E7) = false)
    (s2_8 : PySem.W.subIn K (.ref E2) (.ref E8) = some false)
    (n2_8 : (Value.ref E2 == Value.ref E8) = false)
    (s2_9 : PySem.W.subIn K (.ref E2) (.ref E9) = some false)
    (n2_9 : (Value.ref E2 == Value.ref E9) = false)
    (s2_10 : PySem.W.subIn K (.ref E2) (.ref E10) = some false)
    (n2_10 : (Value.ref E2 == Value.ref E10) = false)
    (s2_11 : PySem.W.subIn K (.ref E2) (.ref E11) = some false)
    (n2_11 : (Value.ref E2 == Value.ref E11) = false)
    (x6_ : K.lookup E6 = some (excClassObj nm6 q6 E6 N6 bs6 [.ref S, .type "ValueError", .type "Exception", .type "BaseException", .type "object"] true sn6 sb6 ab6 col6 dd6 m06 m16 m26 m36 m56 "ValueError.__new__"))
    (sa6 : PySem.W.findIn K (.ref E6) "__setattr__" = some (some (.builtin "object.__setattr__")))
    (ga6 : PySem.W.findIn K (.ref E6) "__getattribute__" = some (some (.builtin "BaseException.__getattribute__")))
    (gg6 : PySem.W.findIn K (.ref E6) "__getattr__" = some none)
    (np6 : PySem.W.findIn K (.ref E6) "place" = some none)
    (in6 : PySem.W.findIn K (.ref E6) "__init__" = some (some (.ref fI6)))
    (ti6 : PySem.W.typeIn K (.ref fI6) = some (.type "function"))
    (li6 : K.lookup fI6 = some ⟨ocI6, odI6, .func (PySem.W.fnOf "__init__" "NoOrder.__init__" (defArgs sOrdInit) (defBody sOrdInit) (defScope sOrdInit) .none kVI6 dcI6 pmI6 anI6 cdI6 ctI6), slI6⟩)
    (ci6 : PySem.W.codeIn K cdI6 "NoOrder.__init__" = true)
    (ki6 : PySem.W.keepIn K (.ref fI6) = true)
    (kc6 : PySem.W.keepIn K (.ref E6) = true)
    (ec6 : PySem.W.subIn K (.ref E6) (.type "BaseException") = some true)
    (hc6 : PySem.W.hasDictIn K E6 = true)
    (cc6 : PySem.W.findIn K (.ref E6) "__class__" = some (some (.builtin "object.__class__")))
    (mc6 : PySem.W.mroIn K E6 (.type "object") = some true)
    (vc6 : PySem.W.subIn K (.ref E6) (.type "ValueError") = some true)
    (sc6 : PySem.W.subIn K (.ref E6) (.ref S) = some true)
    (s6_0 : PySem.W.subIn K (.ref E6) (.ref E0) = some false)
    (n6_0 : (Value.ref E6 == Value.ref E0) = false)
    (s6_1 : PySem.W.subIn K (.ref E6) (.ref E1) = some false)
    (n6_1 : (Value.ref E6 == Value.ref E1) = false)
    (s6_2 : PySem.W.subIn K (.ref E6) (.ref E2) = some false)
    (n6_2 : (Value.ref E6 == Value.ref E2) = false)
    (s6_3 : PySem.W.subIn K (.ref E6) (.ref E3) = some false)
    (n6_3 : (Value.ref E6 == Value.ref E3) = false)
    (s6_4 : PySem.W.subIn K (.ref E6) (.ref E4) = some false)
    (n6_4 : (Value.ref E6 == Value.ref E4) = false)
    (s6_5 : PySem.W.subIn K (.ref E6) (.ref E5) = some false)
    (n6_5 : (Value.ref E6 == Value.ref E5) = false)
    (s6_7 : PySem.W.subIn K (.ref E6) (.ref E7) = some false)
    (n6_7 : (Value.ref E6 == Value.ref E7) = false)
    (s6_8 : PySem.W.subIn K (.ref E6) (.ref E8) = some false)
    (n6_8 : (Value.ref E6 == Value.ref E8) = false)
    (s6_9 : PySem.W.subIn K (.ref E6) (.ref E9) = some false)
    (n6_9 : (Value.ref E6 == Value.ref E9) = false)
    (s6_10 : PySem.W.subIn K (.ref E6) (.ref E10) = some false)
    (n6_10 : (Value.ref E6 == Value.ref E10) = false)
    (s6_11 : PySem.W.subIn K (.ref E6) (.ref E11) = some false)
    (n6_11 : (Value.ref E6 == Value.ref E11) = false)
    : ∃ fd : FuncData, (∀ (s : Shared) (v : Value), BindsTo s fd ⟨[v], []⟩ [("script", v)]) ∧ ∀ base : Heap, K.In base → base.Ns mainGlobals mg → FnOk l.prog w K mg base CX0 6 fa fd ["script"] (spLaw K) := by
  have D0 : Df K mg "is_integer" sInteger ["value", "least"] := by
    have F := fun_mk (st := sInteger) l0 c0 k0
    exact ⟨_, _, PySem.W.mg_of X G a0, F, F.binds (ps := ["value", "least"]) fun _ _ _ _ _ _ us hl => match us, hl with | [_, _], _ => rfl⟩
  have D1 : Df K mg "check_lengths" sCheckLen ["lengths", "many"] := by
    have F := fun_mk (st := sCheckLen) l1 c1 k1
    exact ⟨_, _, PySem.W.mg_of X G a1, F, F.binds (ps := ["lengths", "many"]) fun _ _ _ _ _ _ us hl => match us, hl with | [_, _], _ => rfl⟩
  have D2 : Df K mg "robin_order" sRobOrder ["lengths"] := by
    have F := fun_mk (st := sRobOrder) l2 c2 k2
    exact ⟨_, _, PySem.W.mg_of X G a2, F, F.binds (ps := ["lengths"]) fun _ _ _ _ _ _ us hl => match us, hl with | [_], _ => rfl⟩
  have D3 : Df K mg "least_lengths" sLeast ["order"] := by
    have F := fun_mk (st := sLeast) l3 c3 k3
    exact ⟨_, _, PySem.W.mg_of X G a3, F, F.binds (ps := ["order"]) fun _ _ _ _ _ _ us hl => match us, hl with | [_], _ => rfl⟩
  have D4 : Df K mg "check_robin" sCheckRob ["lengths"] := by
    have F := fun_mk (st := sCheckRob) l4 c4 k4
    exact ⟨_, _, PySem.W.mg_of X G a4, F, F.binds (ps := ["lengths"]) fun _ _ _ _ _ _ us hl => match us, hl with | [_], _ => rfl⟩
  have D5 : Df K mg "check_order" sCheckOrd ["order"] := by
    have F := fun_mk (st := sCheckOrd) l5 c5 k5
    exact ⟨_, _, PySem.W.mg_of X G a5, F, F.binds (ps := ["order"]) fun _ _ _ _ _ _ us hl => match us, hl with | [_], _ => rfl⟩
  have D6 : Df K mg "_law_mix" sMix ["number", "turn"] := by
    have F := fun_mk (st := sMix) l6 c6 k6
    exact ⟨_, _, PySem.W.mg_of X G a6, F, F.binds (ps := ["number", "turn"]) fun _ _ _ _ _ _ us hl => match us, hl with | [_, _], _ => rfl⟩
  have D7 : Df K mg "_law_store" sStore ["script"] := by
    have F := fun_mk (st := sStore) l7 c7 k7
    exact ⟨_, _, PySem.W.mg_of X G a7, F, F.binds (ps := ["script"]) fun _ _ _ _ _ _ us hl => match us, hl with | [_], _ => rfl⟩
  have D8 : Df K mg "_law_pick" sPick ["store", "count"] := by
    have F := fun_mk (st := sPick) l8 c8 k8
    exact ⟨_, _, PySem.W.mg_of X G a8, F, F.binds (ps := ["store", "count"]) fun _ _ _ _ _ _ us hl => match us, hl with | [_, _], _ => rfl⟩
  have D9 : Df K mg "_law_is_int" sInt ["value", "least"] := by
    have F := fun_mk (st := sInt) l9 c9 k9
    exact ⟨_, _, PySem.W.mg_of X G a9, F, F.binds (ps := ["value", "least"]) fun _ _ _ _ _ _ us hl => match us, hl with | [_, _], _ => rfl⟩
  have D10 : Df K mg "_law_kind" sKind ["caught"] := by
    have F := fun_mk (st := sKind) l10 c10 k10
    exact ⟨_, _, PySem.W.mg_of X G a10, F, F.binds (ps := ["caught"]) fun _ _ _ _ _ _ us hl => match us, hl with | [_], _ => rfl⟩
  have D11 : Df K mg "_law_order_of" sOrderOf ["store", "count"] := by
    have F := fun_mk (st := sOrderOf) l11 c11 k11
    exact ⟨_, _, PySem.W.mg_of X G a11, F, F.binds (ps := ["store", "count"]) fun _ _ _ _ _ _ us hl => match us, hl with | [_, _], _ => rfl⟩
  have D12 : Df K mg "_law_longer" sLonger ["store", "order"] := by
    have F := fun_mk (st := sLonger) l12 c12 k12
    exact ⟨_, _, PySem.W.mg_of X G a12, F, F.binds (ps := ["store", "order"]) fun _ _ _ _ _ _ us hl => match us, hl with | [_, _], _ => rfl⟩
  have D13 : Df K mg "_law_bad" sBad ["store", "order"] := by
    have F := fun_mk (st := sBad) l13 c13 k13
    exact ⟨_, _, PySem.W.mg_of X G a13, F, F.binds (ps := ["store", "order"]) fun _ _ _ _ _ _ us hl => match us, hl with | [_, _], _ => rfl⟩
  have D14 : Df K mg "_law_error" sError ["order"] := by
    have F := fun_mk (st := sError) l14 c14 k14
    exact ⟨_, _, PySem.W.mg_of X G a14, F, F.binds (ps := ["order"]) fun _ _ _ _ _ _ us hl => match us, hl with | [_], _ => rfl⟩
  have D15 : Df K mg "law" sLaw ["script"] := by
    have F := fun_mk (st := sLaw) l15 c15 k15
    exact ⟨_, _, PySem.W.mg_of X G a15, F, F.binds (ps := ["script"]) fun _ _ _ _ _ _ us hl => match us, hl with | [_], _ => rfl⟩
  have oex2 : OexC K E2 := ⟨⟨_, _, _, _, _, _, _, _, _, _, _, _, _, _, _, x2_, rfl⟩, sa2, ec2, tE2, kc2⟩
  have exc2 : ExcC K E2 := ⟨ga2, gg2, ec2, hc2, cc2, spG, tkG, mc2⟩
  have xfc2 : XfC K E2 := ⟨ga2, gg2, ec2, hc2⟩
  have nit2 : Nit K "NoLengths" "NoLengths.__init__" "place" sLenInit E2 := by
    have F : Fun K "__init__" "NoLengths.__init__" sLenInit fI2 _ := fun_mk (st := sLenInit) li2 ci2 ki2
    exact ⟨_, _, in2, ti2, F, F.binds (ps := ["self", "place"]) fun _ _ _ _ _ _ us hl => match us, hl with | [_, _], _ => rfl⟩
  have kn2 : Kn K mg E2 2 := ⟨exc2, xfc2, np2, PySem.W.mg_none_of X G zVE, kit_ve vc2, ⟨S, PySem.W.mg_of X G aS, kit_sub iS tS sc2, PySem.W.exm_ref eS hS tS sc2⟩,
    ⟨_, PySem.W.mg_of X G aE0, by rw [kit_ref n2_0 iE0 tE0 s2_0]; rfl⟩,
    ⟨_, PySem.W.mg_of X G aE1, by rw [kit_ref n2_1 iE1 tE1 s2_1]; rfl⟩,
    ⟨_, PySem.W.mg_of X G aE2, by rw [kit_same]; rfl⟩,
    ⟨_, PySem.W.mg_of X G aE3, by rw [kit_ref n2_3 iE3 tE3 s2_3]; rfl⟩,
    ⟨_, PySem.W.mg_of X G aE4, by rw [kit_ref n2_4 iE4 tE4 s2_4]; rfl⟩,
    ⟨_, PySem.W.mg_of X G aE5, by rw [kit_ref n2_5 iE5 tE5 s2_5]; rfl⟩,
    ⟨_, PySem.W.mg_of X G aE6, by rw [kit_ref n2_6 iE6 tE6 s2_6]; rfl⟩,
    ⟨_, PySem.W.mg_of X G aE7, by rw [kit_ref n2_7 iE7 tE7 s2_7]; rfl⟩,
    ⟨_, PySem.W.mg_of X G aE8, by rw [kit_ref n2_8 iE8 tE8 s2_8]; rfl⟩,
    ⟨_, PySem.W.mg_of X G aE9, by rw [kit_ref n2_9 iE9 tE9 s2_9]; rfl⟩,
    ⟨_, PySem.W.mg_of X G aE10, by rw [kit_ref n2_10 iE10 tE10 s2_10]; rfl⟩,
    ⟨_, PySem.W.mg_of X G aE11, by rw [kit_ref n2_11 iE11 tE11 s2_11]; rfl⟩⟩
  have oex6 : OexC K E6 := ⟨⟨_, _, _, _, _, _, _, _, _, _, _, _, _, _, _, x6_, rfl⟩, sa6, ec6, tE6, kc6⟩
  have exc6 : ExcC K E6 := ⟨ga6, gg6, ec6, hc6, cc6, spG, tkG, mc6⟩
  have xfc6 : XfC K E6 := ⟨ga6, gg6, ec6, hc6⟩
  have nit6 : Nit K "NoOrder" "NoOrder.__init__" "place" sOrdInit E6 := by
    have F : Fun K "__init__" "NoOrder.__init__" sOrdInit fI6 _ := fun_mk (st := sOrdInit) li6 ci6 ki6
    exact ⟨_, _, in6, ti6, F, F.binds (ps := ["self", "place"]) fun _ _ _ _ _ _ us hl => match us, hl with | [_, _], _ => rfl⟩
  have kn6 : Kn K mg E6 6 := ⟨exc6, xfc6, np6, PySem.W.mg_none_of X G zVE, kit_ve vc6, ⟨S, PySem.W.mg_of X G aS, kit_sub iS tS sc6, PySem.W.exm_ref eS hS tS sc6⟩,
    ⟨_, PySem.W.mg_of X G aE0, by rw [kit_ref n6_0 iE0 tE0 s6_0]; rfl⟩,
    ⟨_, PySem.W.mg_of X G aE1, by rw [kit_ref n6_1 iE1 tE1 s6_1]; rfl⟩,
    ⟨_, PySem.W.mg_of X G aE2, by rw [kit_ref n6_2 iE2 tE2 s6_2]; rfl⟩,
    ⟨_, PySem.W.mg_of X G aE3, by rw [kit_ref n6_3 iE3 tE3 s6_3]; rfl⟩,
    ⟨_, PySem.W.mg_of X G aE4, by rw [kit_ref n6_4 iE4 tE4 s6_4]; rfl⟩,
    ⟨_, PySem.W.mg_of X G aE5, by rw [kit_ref n6_5 iE5 tE5 s6_5]; rfl⟩,
    ⟨_, PySem.W.mg_of X G aE6, by rw [kit_same]; rfl⟩,
    ⟨_, PySem.W.mg_of X G aE7, by rw [kit_ref n6_7 iE7 tE7 s6_7]; rfl⟩,
    ⟨_, PySem.W.mg_of X G aE8, by rw [kit_ref n6_8 iE8 tE8 s6_8]; rfl⟩,
    ⟨_, PySem.W.mg_of X G aE9, by rw [kit_ref n6_9 iE9 tE9 s6_9]; rfl⟩,
    ⟨_, PySem.W.mg_of X G aE10, by rw [kit_ref n6_10 iE10 tE10 s6_10]; rfl⟩,
    ⟨_, PySem.W.mg_of X G aE11, by rw [kit_ref n6_11 iE11 tE11 s6_11]; rfl⟩⟩
  have B : Blt mg := ⟨PySem.W.mg_none_of X G z_len, PySem.W.mg_none_of X G z_isinstance, PySem.W.mg_none_of X G z_int, PySem.W.mg_none_of X G z_bool, PySem.W.mg_none_of X G z_tuple, PySem.W.mg_none_of X G z_str, PySem.W.mg_none_of X G z_range, PySem.W.mg_none_of X G z_enumerate, PySem.W.mg_none_of X G z_list⟩
  have F := fun_mk (st := sLaw) l15 c15 k15
  have e := hfa.symm.trans (PySem.W.mg_of X G a15)
  cases e
  refine ⟨PySem.W.fnOf "law" "law" (defArgs sLaw) (defBody sLaw) (defScope sLaw) .none kV15 dc15 pm15 an15 cd15 ct15, fun s v => .of_eq rfl, fun base _ _ => ?_⟩
  have cI := ok_integer (P := l.prog) (w := w) (base := base) D0 B
  have erL := erc_len (P := l.prog) (w := w) (base := base) (PySem.W.mg_of X G aE2) oex2 np2 nit2
  have erO := erc_ord (P := l.prog) (w := w) (base := base) (PySem.W.mg_of X G aE6) oex6 np6 nit6
  have cCL := ok_checkLen (P := l.prog) (w := w) (base := base) D1 B erL cI
  have cCR := ok_checkRob (P := l.prog) (w := w) (base := base) D4 B erL cCL
  have cCO := ok_checkOrd (P := l.prog) (w := w) (base := base) D5 B erO cI
  have cRO := ok_robOrder (P := l.prog) (w := w) (base := base) D2 B (PySem.W.mg_none_of X G z_sorted) cCR
  have cLE := ok_least (P := l.prog) (w := w) (base := base) D3 B cCO
  have cM := ok_mix (P := l.prog) (w := w) (base := base) D6
  have cS := ok_store (P := l.prog) (w := w) (base := base) D7 B.len
  have cP := ok_pick (P := l.prog) (w := w) (base := base) D8 cM B.len
  have cJ := ok_int (P := l.prog) (w := w) (base := base) D9 B
  have cN := ok_kind (P := l.prog) (w := w) (base := base) (by decide) D10 B kn6
  have cOO := ok_orderOf (P := l.prog) (w := w) (base := base) D11 B (PySem.W.mg_none_of X G z_min) cP
  have cLo := ok_longer (P := l.prog) (w := w) (base := base) D12 B (PySem.W.mg_none_of X G z_zip) cP
  have cBD := ok_bad (P := l.prog) (w := w) (base := base) D13 B cJ cP
  have cER := ok_error (P := l.prog) (w := w) (base := base) D14 B kn6 cLE cN
  exact ok_law F B (PySem.W.mg_none_of X G z_zip) cS cP cOO cLo cBD cER cJ cLE cRO
end Vk
namespace Vk
open PySem L2
theorem walk {l : PySem.W.OpenLaw} {q : Program} {loose : List Str} {XP : (Str → Option Value) → Heap → Prop} {YP : World → Heap → Prop} {d : DefRec} {K : Params → PySem.W.Frag} (hn : l.most = some 63) (hdf : d.params.defaults = [])
    (hY : ∀ (w : World) (h : Heap), YP w h → (K w.params).In h)
    (F : ∀ (w : World) (mg : Str → Option Value) (fa : Addr) (h : Heap), (K w.params).In h → h.Ns mainGlobals mg → mg d.name = some (.ref fa) →
      ∃ fd : FuncData, (∀ (s : Shared) (u : Value), BindsTo s fd ⟨[u], []⟩ [("script", u)]) ∧ ∀ base : Heap, (K w.params).In base → base.Ns mainGlobals mg → FnOk l.prog w (K w.params) mg base CX0 6 fa fd ["script"] (spLaw (K w.params))) :
    PySem.W.WalkO q loose XP YP l.row.toRowW d [] (fun f vs => PySem.call f vs) :=
  L2.walk_of (n := 63) (k := 6) (x := "script") (CX := fun _ => CX0) (sp := fun w => spLaw (K w.params)) hn (by decide) hdf ⟨rfl, by decide, by decide⟩ hY F (fun _ _ a ns hl _ hS => ⟨a, ns, rfl, hS, hl, fun _ => rfl⟩) fun _ _ _ _ _ z => z
end Vk
open PySem PySem.W PyProof.Rows in
set_option maxRecDepth 100000 in
set_option maxHeartbeats 0 in
theorem PySem.Challenge.cw_blindslots_k39_least_lengths_of_an_order_holds : PySem.Challenge.rw_blindslots_k39_least_lengths_of_an_order.Holds := by
  w_on; o_law; k_head; (case hw => w_witness2)
  k_fill
  refine Vk.walk (l := PySem.Challenge.rw_blindslots_k39_least_lengths_of_an_order) rfl rfl (fun w h Y => PySem.W.kIn_of Y) ?F
  case F =>
    intro w mg fa h KX G hmg
    refine' Vk.all_mk KX G hmg ?a0 ?l0 ?c0 ?k0 ?a1 ?l1 ?c1 ?k1 ?a2 ?l2 ?c2 ?k2 ?a3 ?l3 ?c3 ?k3 ?a4 ?l4 ?c4 ?k4 ?a5 ?l5 ?c5 ?k5 ?a6 ?l6 ?c6 ?k6 ?a7 ?l7 ?c7 ?k7 ?a8 ?l8 ?c8 ?k8 ?a9 ?l9 ?c9 ?k9 ?a10 ?l10 ?c10 ?k10 ?a11 ?l11 ?c11 ?k11 ?a12 ?l12 ?c12 ?k12 ?a13 ?l13 ?c13 ?k13 ?a14 ?l14 ?c14 ?k14 ?a15 ?l15 ?c15 ?k15 ?z_len ?z_isinstance ?z_int ?z_bool ?z_tuple ?z_str ?z_range ?z_enumerate ?z_list ?z_min ?z_sorted ?z_zip ?aS ?iS ?hS ?tS ?eS ?spG ?tkG ?zVE ?aE0 ?iE0 ?tE0 ?aE1 ?iE1 ?tE1 ?aE2 ?iE2 ?tE2 ?aE3 ?iE3 ?tE3 ?aE4 ?iE4 ?tE4 ?aE5 ?iE5 ?tE5 ?aE6 ?iE6 ?tE6 ?aE7 ?iE7 ?tE7 ?aE8 ?iE8 ?tE8 ?aE9 ?iE9 ?tE9 ?aE10 ?iE10 ?tE10 ?aE11 ?iE11 ?tE11 ?x2_ ?sa2 ?ga2 ?gg2 ?np2 ?in2 ?ti2 ?li2 ?ci2 ?ki2 ?kc2 ?ec2 ?hc2 ?cc2 ?mc2 ?vc2 ?sc2 ?s2_0 ?n2_0 ?s2_1 ?n2_1 ?s2_3 ?n2_3 ?s2_4 ?n2_4 ?s2_5 ?n2_5 ?s2_6 ?n2_6 ?s2_7 ?n2_7 ?s2_8 ?n2_8 ?s2_9 ?n2_9 ?s2_10 ?n2_10 ?s2_11 ?n2_11 ?x6_ ?sa6 ?ga6 ?gg6 ?np6 ?in6 ?ti6 ?li6 ?ci6 ?ki6 ?kc6 ?ec6 ?hc6 ?cc6 ?mc6 ?vc6 ?sc6 ?s6_0 ?n6_0 ?s6_1 ?n6_1 ?s6_2 ?n6_2 ?s6_3 ?n6_3 ?s6_4 ?n6_4 ?s6_5 ?n6_5 ?s6_7 ?n6_7 ?s6_8 ?n6_8 ?s6_9 ?n6_9 ?s6_10 ?n6_10 ?s6_11 ?n6_11
    (case a0 => k_is)
    (case l0 => k_is)
    (case c0 => k_is)
    (case k0 => k_is)
    (case a1 => k_is)
    (case l1 => k_is)
    (case c1 => k_is)
    (case k1 => k_is)
    (case a2 => k_is)
    (case l2 => k_is)
    (case c2 => k_is)
    (case k2 => k_is)
    (case a3 => k_is)
    (case l3 => k_is)
    (case c3 => k_is)
    (case k3 => k_is)
    (case a4 => k_is)
    (case l4 => k_is)
    (case c4 => k_is)
    (case k4 => k_is)
    (case a5 => k_is)
    (case l5 => k_is)
    (case c5 => k_is)
    (case k5 => k_is)
    (case a6 => k_is)
    (case l6 => k_is)
    (case c6 => k_is)
    (case k6 => k_is)
    (case a7 => k_is)
    (case l7 => k_is)
    (case c7 => k_is)
    (case k7 => k_is)
    (case a8 => k_is)
    (case l8 => k_is)
    (case c8 => k_is)
    (case k8 => k_is)
    (case a9 => k_is)
    (case l9 => k_is)
    (case c9 => k_is)
    (case k9 => k_is)
    (case a10 => k_is)
    (case l10 => k_is)
    (case c10 => k_is)
    (case k10 => k_is)
    (case a11 => k_is)
    (case l11 => k_is)
    (case c11 => k_is)
    (case k11 => k_is)
    (case a12 => k_is)
    (case l12 => k_is)
    (case c12 => k_is)
    (case k12 => k_is)
    (case a13 => k_is)
    (case l13 => k_is)
    (case c13 => k_is)
    (case k13 => k_is)
    (case a14 => k_is)
    (case l14 => k_is)
    (case c14 => k_is)
    (case k14 => k_is)
    (case a15 => k_is)
    (case l15 => k_is)
    (case c15 => k_is)
    (case k15 => k_is)
    (case z_len => k_is)
    (case z_isinstance => k_is)
    (case z_int => k_is)
    (case z_bool => k_is)
    (case z_tuple => k_is)
    (case z_str => k_is)
    (case z_range => k_is)
    (case z_enumerate => k_is)
    (case z_list => k_is)
    (case z_min => k_is)
    (case z_sorted => k_is)
    (case z_zip => k_is)
    (case aS => k_is)
    (case iS => k_is)
    (case hS => k_is)
    (case tS => k_is)
    (case eS => k_is)
    (case spG => k_is)
    (case tkG => k_is)
    (case zVE => k_is)
    (case aE0 => k_is)
    (case iE0 => k_is)
    (case tE0 => k_is)
    (case aE1 => k_is)
    (case iE1 => k_is)
    (case tE1 => k_is)
    (case aE2 => k_is)
    (case iE2 => k_is)
    (case tE2 => k_is)
    (case aE3 => k_is)
    (case iE3 => k_is)
    (case tE3 => k_is)
    (case aE4 => k_is)
    (case iE4 => k_is)
    (case tE4 => k_is)
    (case aE5 => k_is)
    (case iE5 => k_is)
    (case tE5 => k_is)
    (case aE6 => k_is)
    (case iE6 => k_is)
    (case tE6 => k_is)
    (case aE7 => k_is)
    (case iE7 => k_is)
    (case tE7 => k_is)
    (case aE8 => k_is)
    (case iE8 => k_is)
    (case tE8 => k_is)
    (case aE9 => k_is)
    (case iE9 => k_is)
    (case tE9 => k_is)
    (case aE10 => k_is)
    (case iE10 => k_is)
    (case tE10 => k_is)
    (case aE11 => k_is)
    (case iE11 => k_is)
    (case tE11 => k_is)
    (case x2_ => k_is)
    (case sa2 => k_is)
    (case ga2 => k_is)
    (case gg2 => k_is)
    (case np2 => k_is)
    (case in2 => k_is)
    (case ti2 => k_is)
    (case li2 => k_is)
    (case ci2 => k_is)
    (case ki2 => k_is)
    (case kc2 => k_is)
    (case ec2 => k_is)
    (case hc2 => k_is)
    (case cc2 => k_is)
    (case mc2 => k_is)
    (case vc2 => k_is)
    (case sc2 => k_is)
    (case s2_0 => k_is)
    (case n2_0 => rfl)
    (case s2_1 => k_is)
    (case n2_1 => rfl)
    (case s2_3 => k_is)
    (case n2_3 => rfl)
    (case s2_4 => k_is)
    (case n2_4 => rfl)
    (case s2_5 => k_is)
    (case n2_5 => rfl)
    (case s2_6 => k_is)
    (case n2_6 => rfl)
    (case s2_7 => k_is)
    (case n2_7 => rfl)
    (case s2_8 => k_is)
    (case n2_8 => rfl)
    (case s2_9 => k_is)
    (case n2_9 => rfl)
    (case s2_10 => k_is)
    (case n2_10 => rfl)
    (case s2_11 => k_is)
    (case n2_11 => rfl)
    (case x6_ => k_is)
    (case sa6 => k_is)
    (case ga6 => k_is)
    (case gg6 => k_is)
    (case np6 => k_is)
    (case in6 => k_is)
    (case ti6 => k_is)
    (case li6 => k_is)
    (case ci6 => k_is)
    (case ki6 => k_is)
    (case kc6 => k_is)
    (case ec6 => k_is)
    (case hc6 => k_is)
    (case cc6 => k_is)
    (case mc6 => k_is)
    (case vc6 => k_is)
    (case sc6 => k_is)
    (case s6_0 => k_is)
    (case n6_0 => rfl)
    (case s6_1 => k_is)
    (case n6_1 => rfl)
    (case s6_2 => k_is)
    (case n6_2 => rfl)
    (case s6_3 => k_is)
    (case n6_3 => rfl)
    (case s6_4 => k_is)
    (case n6_4 => rfl)
    (case s6_5 => k_is)
    (case n6_5 => rfl)
    (case s6_7 => k_is)
    (case n6_7 => rfl)
    (case s6_8 => k_is)
    (case n6_8 => rfl)
    (case s6_9 => k_is)
    (case n6_9 => rfl)
    (case s6_10 => k_is)
    (case n6_10 => rfl)
    (case s6_11 => k_is)
    (case n6_11 => rfl)
