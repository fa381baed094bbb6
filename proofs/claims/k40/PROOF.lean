import PyProof.Rows.All
import Wide.All
import OpenK.AllK
import Wide.FinOn
import HandS.ForMost
import HandS.Exc
import HandS.TryOnly
import HandS.ExcOwn
import HandS.WordsExc
import HandS.Codes
import HandS.IsInst
import HandS.Walk
import HandS.AnyAll
import KE.GoesEnum
import KE.KExcIs
import HandS.ExcInit
import HandS.ExcField
import HandS.ExcIs
import HandS.SetFor
import HandS.TupAny
import HandS.TupMul
import PyProof.EqAt
import PyProof.NeKinds
import HandS.FStr
import HandS.More
import HandS.Deep
import HandS.SortRule
import HandS.Conv
import HandS.Style
import HandS.Zip
import KE.KTupSum
import HandS.Small
import PySem.Challenge.RW_blindslots_k40_whole_orders_counted
set_option Elab.async false
set_option linter.all false
set_option maxRecDepth 100000
set_option maxHeartbeats 8000000
/-! what every text of ours needs: a def as it stands, its call, the drawing store -/
namespace Vk
open PySem PySem.Spec PyProof.Rows L2
/-- a def of the module's top -/
structure Df (K : PySem.W.Frag) (mg : Str → Option Value) (x : Str) (st : Stmt) (ps : List Str) : Prop where
  ex : ∃ f fd, mg x = some (.ref f) ∧ Fun K x x st f fd ∧ Binds K fd ps []
/-- its promise -/
structure Cl (P : Program) (w : World) (K : PySem.W.Frag) (mg : Str → Option Value) (base : Heap) (CX : CXT) (k : Nat) (x : Str) (ps : List Str) (sp : Sp) : Prop where
  ex : ∃ f fd, mg x = some (.ref f) ∧ PySem.W.keepIn K (.ref f) = true ∧ Binds K fd ps [] ∧ FnOk P w K mg base CX k f fd ps sp
section
variable {P : Program} {w : World} {K : PySem.W.Frag} {mg : Str → Option Value} {base : Heap}
theorem cl0 {x : Str} {st : Stmt} {N ps : List Str} {k : Nat} {sp : Sp} (D : Df K mg x st ps) (S : FnScope N ps (defScope st)) (len : ∀ vs H Q E, sp vs H Q E → vs.length = ps.length)
    (body : ∀ (f : Addr) (cdv : Value) (A : Around) (outer : List Env) (s : Shared) (H : Hp) (vs : List V) (Q : VK) (E : XK), Room k (A.deeper (envOfC x (defScope st) s.heap.objs.size f cdv)) → sp vs H Q E →
      ∃ t, PSs (cxOf CX0 P w K mg base N x (defScope st) f cdv A outer s H E).nox (defBody st) t ∧ t { nx := fun _ H' => Q .non H', rt := Q } (start N vs) H) : Cl P w K mg base CX0 (k + 1) x ps sp := by
  obtain ⟨f, fd, hm, F, b⟩ := D.ex
  exact ⟨f, fd, hm, F.kp, b, F.ok S len (body f)⟩
theorem clX {x : Str} {st : Stmt} {N ps : List Str} {k : Nat} {sp : Sp} (D : Df K mg x st ps) (S : FnScope N ps (defScope st)) (len : ∀ vs H Q E, sp vs H Q E → vs.length = ps.length)
    (body : ∀ (f : Addr) (cdv : Value) (A : Around) (outer : List Env) (s : Shared) (H : Hp) (vs : List V) (Q : VK) (E : XK), Room k (A.deeper (envOfC x (defScope st) s.heap.objs.size f cdv)) → sp vs H Q E →
      ∃ t, PSs (cxOf (L2.CX P w) P w K mg base N x (defScope st) f cdv A outer s H E) (defBody st) t ∧ t { nx := fun _ H' => Q .non H', rt := Q } (start N vs) H) : Cl P w K mg base (L2.CX P w) (k + 1) x ps sp := by
  obtain ⟨f, fd, hm, F, b⟩ := D.ex
  exact ⟨f, fd, hm, F.kp, b, F.okX S len (body f)⟩
end
def tCal (sp : Sp) (t : TA) : TE := fun σ H Q => t σ H fun vs H1 => sp (vs ++ []) H1 Q E0
section
variable {X : Cx}
theorem pc {x : Str} {ps : List Str} {sp : Sp} {j k : Nat} {e : Expr} {es : List Expr} {t : TA} {p pos : Pos} (c : Cl X.prog X.w X.K X.mg X.base CX0 k x ps sp) (hr : Room j X.A) (hk : k ≤ j) (ha : PA X (e :: es) t) (hg : Gl X x := by rfl)
    (hdb : (x == ("__debug__" : Str)) = false := by decide) (he : starEach (e :: es) X.env = (false, eval e X.env) :: starEach es X.env := by rfl) (hpl : (backTo pos (starEach es X.env)).any (·.1) = false := by rfl) :
    PE X (.Call (.Name x p) (e :: es) [] pos) (tCal sp t) := by
  obtain ⟨f, fd, hm, kp, b, F⟩ := c.ex
  exact pe_call F (hr.mono hk) hg hm kp b .nil pass0 ha hdb he hpl
end
/-! ### heaps -/
def NoTbl : HO → Prop
  | .tbl _ => False
  | _ => True
/-- all that was tracked is as it was, but that tables of code objects may have grown -/
structure Same (H H' : Hp) : Prop where
  at_ : ∀ b o, H b = some o → NoTbl o → H' b = some o
  has : ∀ b, H b ≠ none → H' b ≠ none
  tab : ∀ P, GxR.TabG H P → GxR.TabG H' P
theorem Same.at {H H' : Hp} {b : Addr} {o : HO} (s : Same H H') (h : H b = some o) (n : NoTbl o := by exact True.intro) : H' b = some o := s.at_ b o h n
theorem Same.refl (H : Hp) : Same H H := ⟨fun _ _ h _ => h, fun _ h => h, fun _ h => h⟩
theorem Same.trans {H H1 H2 : Hp} (a : Same H H1) (b : Same H1 H2) : Same H H2 := ⟨fun c o h n => b.at_ c o (a.at_ c o h n) n, fun c h => b.has c (a.has c h), fun P h => b.tab P (a.tab P h)⟩
theorem Same.of {H H' : Hp} (h : ∀ b o, H b = some o → H' b = some o) : Same H H' := by
  refine ⟨fun b o e _ => h b o e, fun b e => ?_, fun P ⟨ps, e, t⟩ => ⟨ps, h _ _ e, t⟩⟩
  cases q : H b with
  | none => exact absurd q e
  | some o =>
    rw [h b o q]
    exact fun z => nomatch z
theorem Same.free {H H' : Hp} (e : Same H H') {l : Addr} (h : H' l = none) : H l = none := by
  cases q : H l with
  | none => rfl
  | some o => exact absurd h (e.has l (by rw [q]; exact fun z => nomatch z))
theorem Same.seq {K : PySem.W.Frag} {H H' : Hp} {a : Addr} {xs : List V} (e : Same H H') (h : SqL K H a xs) : SqL K H' a xs := by
  rcases h with (h | ⟨o, h⟩) | h
  · exact .inl (.inl (e.at h))
  · exact .inl (.inr ⟨o, e.at h⟩)
  · exact .inr h
theorem ne_has {H : Hp} {a p : Addr} (h : H a ≠ none) (n : H p = none) : p ≠ a := fun z => h (z ▸ n)
theorem has_of {H : Hp} {a : Addr} {o : HO} (h : H a = some o) : H a ≠ none := by
  rw [h]
  exact fun z => nomatch z
/-- a table grows -/
theorem same_tabbed {P : Addr} {H H' : Hp} (h : GxR.Tabbed P H H') (h0 : GxR.TabG H P) : Same H H' := by
  obtain ⟨⟨ps', e', t'⟩, k⟩ := h
  obtain ⟨ps, e, t⟩ := h0
  refine ⟨fun b o q n => ?_, fun b q => ?_, fun Q hq => ?_⟩
  · by_cases z : b = P
    · rw [z, e] at q
      cases q
      exact False.elim n
    · rw [k b z]
      exact q
  · by_cases z : b = P
    · rw [z, e']
      exact fun z => nomatch z
    · rw [k b z]
      exact q
  · by_cases z : Q = P
    · rw [z]
      exact ⟨ps', e', t'⟩
    · obtain ⟨qs, f, u⟩ := hq
      exact ⟨qs, by rw [k Q z]; exact f, u⟩
/-- the heap without what stands at a -/
def Off (a : Addr) (H : Hp) : Hp := fun b => if b = a then none else H b
theorem off_ne {a b : Addr} {H : Hp} (h : b ≠ a) : Off a H b = H b := if_neg h
theorem off_same {a : Addr} {H : Hp} : Off a H a = none := if_pos rfl
theorem off_some {a b : Addr} {H : Hp} {o : HO} (e : Off a H b = some o) : b ≠ a ∧ H b = some o := by
  by_cases h : b = a
  · rw [h, off_same] at e; cases e
  · exact ⟨h, by rw [off_ne h] at e; exact e⟩
theorem off_sub (a : Addr) (H : Hp) : Same (Off a H) H := .of fun b o e => (off_some e).2
theorem off_mono {a : Addr} {H H' : Hp} (s : Same H H') : Same (Off a H) (Off a H') := by
  refine ⟨fun b o e n => ?_, fun b e => ?_, fun P ⟨ps, e, t⟩ => ?_⟩
  · obtain ⟨h1, h2⟩ := off_some e
    rw [off_ne h1]
    exact s.at_ b o h2 n
  · by_cases h : b = a
    · rw [h, off_same] at e
      exact absurd rfl e
    · rw [off_ne h] at e ⊢
      exact s.has b e
  · obtain ⟨h1, h2⟩ := off_some e
    obtain ⟨qs, f, u⟩ := s.tab P ⟨ps, h2, t⟩
    exact ⟨qs, by rw [off_ne h1]; exact f, u⟩
theorem off_upd {a : Addr} {H : Hp} {o : HO} : Off a (upd H a o) = Off a H := by
  funext b
  by_cases h : b = a
  · rw [h, off_same, off_same]
  · rw [off_ne h, off_ne h, upd_ne h]
theorem same_new {H : Hp} {p : Addr} {o : HO} (h : H p = none) : Same H (upd H p o) := .of fun b u e => by
  rw [upd_ne (ne_of_none e h)]; exact e
theorem same_seqT {K : PySem.W.Frag} {H H' : Hp} {a : Addr} {xs : List V} (e : Same H H') (h : SqT K H a xs) : SqT K H' a xs := by
  rcases h with (h | ⟨o, h⟩) | h
  · exact .inl (.inl (e.at h))
  · exact .inl (.inr ⟨o, e.at h⟩)
  · exact .inr h
mutual
theorem dp_same {K : PySem.W.Frag} {H H' : Hp} (e : Same H H') : ∀ {v : V} {d : PyData}, Dp K H v d → Dp K H' v d
  | _, _, .non => .non
  | _, _, .bl b => .bl b
  | _, _, .int i => .int i
  | _, _, .str x => .str x
  | _, _, .lst h r => .lst (e.seq h) (dps_same e r)
  | _, _, .tup h r => .tup (same_seqT e h) (dps_same e r)
theorem dps_same {K : PySem.W.Frag} {H H' : Hp} (e : Same H H') : ∀ {vs : List V} {ds : List PyData}, DpAll K H vs ds → DpAll K H' vs ds
  | _, _, .nil => .nil
  | _, _, .cons h r => .cons (dp_same e h) (dps_same e r)
end
/-! ### the law's store: cells, next index, digits, all mixed, draws so far (at most n) -/
structure Sto (sc a : Addr) (n : Int) (H : Hp) : Prop where
  ex : ∃ (cs : List Int) (i dg mx c : Int), H a = some (.lst [.ref sc, .int i, .int dg, .int mx, .int c]) ∧ sc ≠ a ∧ H sc = some (.lst (cs.map V.int)) ∧ cs.length ≤ 63 ∧ 0 ≤ i ∧ 0 ≤ dg ∧ 0 ≤ c ∧ c ≤ n
theorem Sto.more {sc a : Addr} {n m : Int} {H : Hp} (s : Sto sc a n H) (h : n ≤ m) : Sto sc a m H := by
  obtain ⟨x2, x3, x4, x5, x6, h1, h2, h3, h4, h5, h6, h7, h8⟩ := s.ex
  exact ⟨x2, x3, x4, x5, x6, h1, h2, h3, h4, h5, h6, h7, by omega⟩
/-- all else stands -/
def Kept (a : Addr) (H H' : Hp) : Prop := Same (Off a H) (Off a H')
theorem Kept.refl (a : Addr) (H : Hp) : Kept a H H := Same.refl _
theorem Kept.trans {a : Addr} {H H1 H2 : Hp} (x : Kept a H H1) (y : Kept a H1 H2) : Kept a H H2 := Same.trans x y
theorem kept_same {a : Addr} {H H' : Hp} (s : Same H H') : Kept a H H' := off_mono s
theorem Sto.same {sc a : Addr} {n : Int} {H H' : Hp} (s : Sto sc a n H) (e : Same H H') : Sto sc a n H' := by
  obtain ⟨x2, x3, x4, x5, x6, h1, h2, h3, h4⟩ := s.ex
  exact ⟨x2, x3, x4, x5, x6, e.at h1, h2, e.at h3, h4⟩
theorem Sto.put {sc a : Addr} {n : Int} {H : Hp} {cs : List Int} {i dg mx c : Int} (hs : sc ≠ a) (hq : H sc = some (.lst (cs.map V.int))) (hl : cs.length ≤ 63) (hi : 0 ≤ i) (hd : 0 ≤ dg) (hc : 0 ≤ c) (hn : c ≤ n) :
    Sto sc a n (upd H a (.lst [.ref sc, .int i, .int dg, .int mx, .int c])) :=
  ⟨cs, i, dg, mx, c, upd_same, hs, by rw [upd_ne hs]; exact hq, hl, hi, hd, hc, hn⟩
/-- another list changes -/
theorem Sto.other {sc a l : Addr} {n : Int} {H : Hp} {o : HO} (s : Sto sc a n H) (h1 : l ≠ a) (h2 : l ≠ sc) : Sto sc a n (upd H l o) := by
  obtain ⟨x2, x3, x4, x5, x6, g1, g2, g3, g4⟩ := s.ex
  exact ⟨x2, x3, x4, x5, x6, by rw [upd_ne h1.symm]; exact g1, g2, by rw [upd_ne h2.symm]; exact g3, g4⟩
theorem Sto.ne {sc a p : Addr} {n : Int} {H : Hp} (s : Sto sc a n H) (h : H p = none) : p ≠ a := by
  obtain ⟨_, _, _, _, _, h1, _⟩ := s.ex
  exact (ne_of_none h1 h).symm
theorem Sto.ne2 {sc a p : Addr} {n : Int} {H : Hp} (s : Sto sc a n H) (h : H p = none) : p ≠ sc := by
  obtain ⟨_, _, _, _, _, _, _, h1, _⟩ := s.ex
  exact (ne_of_none h1 h).symm
theorem kept_put {a : Addr} {H : Hp} {o : HO} : Kept a H (upd H a o) := by unfold Kept; rw [off_upd]; exact Same.refl _
theorem Sto.hasA {sc a : Addr} {n : Int} {H : Hp} (s : Sto sc a n H) : H a ≠ none := by
  obtain ⟨_, _, _, _, _, h1, _⟩ := s.ex
  exact has_of h1
theorem Sto.tab {sc a P : Addr} {n : Int} {H : Hp} (s : Sto sc a n H) (t : GxR.TabG H P) : GxR.TabG (Off a H) P := by
  obtain ⟨_, _, _, _, _, h1, _⟩ := s.ex
  obtain ⟨ps, e, u⟩ := t
  exact ⟨ps, by rw [off_ne (ne_of h1 e (fun z => nomatch z)).symm]; exact e, u⟩
theorem Kept.tab {sc a P : Addr} {n : Int} {H H' : Hp} (k : Kept a H H') (s : Sto sc a n H) (t : GxR.TabG H P) : GxR.TabG H' P := (off_sub a H').tab P (Same.tab k P (s.tab t))
end Vk
namespace Vk
open PySem
def top (i : Nat) : Stmt := PySem.Challenge.pw_blindslots_k40_whole_orders_counted.main.body.getD i (.Pass ⟨0, 0, 0, 0⟩)
abbrev sInteger : Stmt := top 15
abbrev sLeast : Stmt := top 17
abbrev sRobin : Stmt := top 18
abbrev sParts : Stmt := top 19
abbrev sCheckOrd : Stmt := top 20
abbrev sMix : Stmt := top 22
abbrev sStore : Stmt := top 23
abbrev sPick : Stmt := top 24
abbrev sInt : Stmt := top 25
abbrev sKind : Stmt := top 26
abbrev sParted : Stmt := top 27
abbrev sOrders : Stmt := top 28
abbrev sPartit : Stmt := top 29
abbrev sTwice : Stmt := top 30
abbrev sLaw : Stmt := top 31
end Vk
/-! values as data: kinds, integers, tuples -/
namespace Vk
open PySem PySem.Spec PyProof.Rows L2
def tyN : PyData → String
  | .none => "NoneType"
  | .bool _ => "bool"
  | .int _ => "int"
  | .str _ => "str"
  | .list _ => "list"
  | .tuple _ => "tuple"
  | .dict _ => "dict"
theorem dp_ty {K : PySem.W.Frag} {H : Hp} {v : V} {d : PyData} (h : Dp K H v d) : TyX K H v (.type (tyN d)) := by
  cases h with
  | non => exact .base .non
  | bl b => exact .base (.bl b)
  | int i => exact .base (.int i)
  | str x => exact .base (.str x)
  | lst q _ =>
    rcases q with (q | ⟨o, q⟩) | ⟨o, its, n, hk, hc, _⟩
    · exact .base (.lst q)
    · exact .base (.frz q)
    · exact .kList hk hc
  | tup q _ =>
    rcases q with (q | ⟨o, q⟩) | ⟨o, its, n, hk, hc, _⟩
    · exact .base (.tup q)
    · exact .fTuple q
    · exact .kTuple hk hc
def isIntD : PyData → Bool
  | .bool _ => true
  | .int _ => true
  | _ => false
def isBoolD : PyData → Bool
  | .bool _ => true
  | _ => false
def isTupD : PyData → Bool
  | .tuple _ => true
  | _ => false
def isStrD : PyData → Bool
  | .str _ => true
  | _ => false
section
variable {K : PySem.W.Frag} {H : Hp} {v : V} {d : PyData}
theorem kit_int (h : Dp K H v d) : PySem.W.kitOne K (.type (tyN d)) (.type "int") = some (isIntD d) := by
  cases h with
  | non => exact kit_ty (show kitB "NoneType" "int" = some false by decide +kernel)
  | bl _ => exact kit_ty (show kitB "bool" "int" = some true by decide +kernel)
  | int _ => exact kit_ty (show kitB "int" "int" = some true by decide +kernel)
  | str _ => exact kit_ty (show kitB "str" "int" = some false by decide +kernel)
  | lst _ _ => exact kit_ty (show kitB "list" "int" = some false by decide +kernel)
  | tup _ _ => exact kit_ty (show kitB "tuple" "int" = some false by decide +kernel)
theorem kit_bool (h : Dp K H v d) : PySem.W.kitOne K (.type (tyN d)) (.type "bool") = some (isBoolD d) := by
  cases h with
  | non => exact kit_ty (show kitB "NoneType" "bool" = some false by decide +kernel)
  | bl _ => exact kit_ty (show kitB "bool" "bool" = some true by decide +kernel)
  | int _ => exact kit_ty (show kitB "int" "bool" = some false by decide +kernel)
  | str _ => exact kit_ty (show kitB "str" "bool" = some false by decide +kernel)
  | lst _ _ => exact kit_ty (show kitB "list" "bool" = some false by decide +kernel)
  | tup _ _ => exact kit_ty (show kitB "tuple" "bool" = some false by decide +kernel)
theorem kit_tup (h : Dp K H v d) : PySem.W.kitOne K (.type (tyN d)) (.type "tuple") = some (isTupD d) := by
  cases h with
  | non => exact kit_ty (show kitB "NoneType" "tuple" = some false by decide +kernel)
  | bl _ => exact kit_ty (show kitB "bool" "tuple" = some false by decide +kernel)
  | int _ => exact kit_ty (show kitB "int" "tuple" = some false by decide +kernel)
  | str _ => exact kit_ty (show kitB "str" "tuple" = some false by decide +kernel)
  | lst _ _ => exact kit_ty (show kitB "list" "tuple" = some false by decide +kernel)
  | tup _ _ => exact kit_ty (show kitB "tuple" "tuple" = some true by decide +kernel)
theorem kit_strT (h : Dp K H v d) : PySem.W.kitOne K (.type (tyN d)) (.type "str") = some (isStrD d) := by
  cases h with
  | non => exact kit_ty (show kitB "NoneType" "str" = some false by decide +kernel)
  | bl _ => exact kit_ty (show kitB "bool" "str" = some false by decide +kernel)
  | int _ => exact kit_ty (show kitB "int" "str" = some false by decide +kernel)
  | str _ => exact kit_ty (show kitB "str" "str" = some true by decide +kernel)
  | lst _ _ => exact kit_ty (show kitB "list" "str" = some false by decide +kernel)
  | tup _ _ => exact kit_ty (show kitB "tuple" "str" = some false by decide +kernel)
theorem dp_tuple {ds : List PyData} (h : Dp K H v (.tuple ds)) : ∃ a xs, v = .ref a ∧ SqT K H a xs ∧ DpAll K H xs ds := by
  cases h with
  | tup q r => exact ⟨_, _, rfl, q, r⟩
theorem dp_int {i : Int} (h : Dp K H v (.int i)) : v = .int i := by
  cases h
  rfl
theorem dp_bool {i : Bool} (h : Dp K H v (.bool i)) : v = .bl i := by
  cases h
  rfl
theorem dp_str {i : Str} (h : Dp K H v (.str i)) : v = .str i := by
  cases h
  rfl
theorem dp_none (h : Dp K H v .none) : v = .non := by
  cases h
  rfl
theorem dps_len : ∀ {vs : List V} {ds : List PyData}, DpAll K H vs ds → vs.length = ds.length
  | _, _, .nil => rfl
  | _, _, .cons _ r => congrArg (· + 1) (dps_len r)
theorem dps_get : ∀ {vs : List V} {ds : List PyData} {i : Nat} {d : PyData}, DpAll K H vs ds → ds[i]? = some d → ∃ v, vs[i]? = some v ∧ Dp K H v d
  | _, _, 0, _, .cons h _, e => by cases e; exact ⟨_, rfl, h⟩
  | _, _, i + 1, _, .cons _ r, e => by
    obtain ⟨v, h1, h2⟩ := dps_get r (i := i) (by simpa using e)
    exact ⟨v, by simpa using h1, h2⟩
theorem dps_getV : ∀ {vs : List V} {ds : List PyData} {i : Nat} {v : V}, DpAll K H vs ds → vs[i]? = some v → ∃ d, ds[i]? = some d ∧ Dp K H v d
  | _, _, 0, _, .cons h _, e => by cases e; exact ⟨_, rfl, h⟩
  | _, _, i + 1, _, .cons _ r, e => by
    obtain ⟨v, h1, h2⟩ := dps_getV r (i := i) (by simpa using e)
    exact ⟨v, by simpa using h1, h2⟩
theorem dps_app : ∀ {vs us : List V} {ds es : List PyData}, DpAll K H vs ds → DpAll K H us es → DpAll K H (vs ++ us) (ds ++ es)
  | _, _, _, _, .nil, h => h
  | _, _, _, _, .cons h r, q => .cons h (dps_app r q)
theorem dps_take : ∀ {vs : List V} {ds : List PyData} (n : Nat), DpAll K H vs ds → DpAll K H (vs.take n) (ds.take n)
  | _, _, 0, _ => .nil
  | _, _, n + 1, .nil => .nil
  | _, _, n + 1, .cons h r => .cons h (dps_take n r)
theorem dps_drop : ∀ {vs : List V} {ds : List PyData} (n : Nat), DpAll K H vs ds → DpAll K H (vs.drop n) (ds.drop n)
  | _, _, 0, h => h
  | _, _, n + 1, .nil => .nil
  | _, _, n + 1, .cons h r => dps_drop n r
/-- flat data -/
def flatD : PyData → Bool
  | .none => true
  | .bool _ => true
  | .int _ => true
  | .str _ => true
  | _ => false
theorem dp_flat (h : Dp K H v d) : flatV v = flatD d := by
  cases h <;> rfl
end
/-- an integer from a least one on -/
def integerD (least : Int) : PyData → Bool
  | .int i => decide (least ≤ i)
  | _ => false
def tupleND (n : Int) : PyData → Bool
  | .tuple ds => decide ((ds.length : Int) = n)
  | _ => false
/-! ### their defs' promises -/
def spInteger (K : PySem.W.Frag) : Sp := fun vs H Q _ => ∃ (v : V) (d : PyData) (least : Int), vs = [v, .int least] ∧ Dp K H v d ∧ Q (.bl (integerD least d)) H
def spTupleOf (K : PySem.W.Frag) : Sp := fun vs H Q _ => ∃ (v : V) (d : PyData) (n : Int), vs = [v, .int n] ∧ Dp K H v d ∧ Q (.bl (tupleND n d)) H
structure Blt (mg : Str → Option Value) : Prop where
  len : mg "len" = none
  isi : mg "isinstance" = none
  int : mg "int" = none
  bool : mg "bool" = none
  tuple : mg "tuple" = none
  str : mg "str" = none
  range : mg "range" = none
  enum : mg "enumerate" = none
  list : mg "list" = none
/-- isinstance(e, T), T a built-in type -/
def tIsi (K : PySem.W.Frag) (T : String) (te : TE) : TE := tCB (rIsi K) (tCons te (tCons (tC (.ty T)) tNil))
theorem isi_go {K : PySem.W.Frag} {T : String} {te : TE} {σ : L2.St} {H H1 : Hp} {v : V} {d : PyData} {b : Bool} {Q : VK} (h : ∀ R : VK, R v H1 → te σ H R) (hd : Dp K H1 v d) (k : PySem.W.kitOne K (.type (tyN d)) (.type T) = some b) (q : Q (.bl b) H1) : tIsi K T te σ H Q :=
  h _ ⟨v, .ty T, _, _, b, rfl, .ty T, dp_ty hd, k, q⟩
end Vk
namespace Vk
open PySem PySem.Spec PyProof.Rows L2
section
variable {P : Program} {w : World} {K : PySem.W.Frag} {mg : Str → Option Value} {base : Heap}
/-! ### _law_mix -/
def spMix : Sp := fun vs H Q _ => ∃ (n t : Int), vs = [.int n, .int t] ∧ 0 ≤ t ∧ t ≤ 10000000 ∧ ∀ r : Int, 0 ≤ r → r < 2147483648 → Q (.int r) H
theorem scMix : FnScope ["number", "turn", "value"] ["number", "turn"] (defScope sMix) := ⟨rfl, rfl, rfl, by decide +kernel, rfl, by decide +kernel, by decide +kernel⟩
theorem ok_mix (D : Df K mg "_law_mix" sMix ["number", "turn"]) : Cl P w K mg base CX0 1 "_law_mix" ["number", "turn"] spMix := by
  refine cl0 D scMix (fun vs H Q E h => ?_) (fun f cdv A outer s H vs Q E hr h => ?_)
  · obtain ⟨n, t, rfl, _⟩ := h
    rfl
  · obtain ⟨n, t, rfl, h0, h1, k⟩ := h
    refine ⟨_, pss_cons (ps_set (i := 2) scMix.nd rfl (Or.inl rfl) (pe_op op_mod (pe_op op_add (pe_op op_add (pe_op op_add (pe_op op_mod (pv 0) pe_int) (pe_op op_mul (pe_op op_mul pe_int (pv 1)) (pv 1))) (pe_op op_mul pe_int (pv 1))) pe_int) pe_int))
      (pss_cons (ps_set (i := 2) scMix.nd rfl (Or.inl rfl) (pe_op op_mod (pe_op op_mul (pe_op op_mod (pe_op op_mul (pv 2) (pv 2)) pe_int) (pv 2)) pe_int))
      (pss_one (ps_ret (pe_op op_fdiv (pe_op op_mod (pe_op op_add (pe_op op_mul (pv 2) pe_int) (pv 1)) pe_int) pe_int)))), ?_⟩
    refine ⟨_, rfl, _, _, rfl, rfl, (by show (0 : Int) < 2147483629; decide), _, rfl, _, _, rfl, rfl, .inl (by decide), _, rfl, _, _, rfl, rfl, .inr ⟨by omega, by omega⟩, _, _, rfl, rfl, _, rfl, _, _, rfl, rfl, .inl (by decide), _, _, rfl, rfl, _, _, rfl, rfl, _, _, rfl, rfl, (by show (0 : Int) < 2147483629; decide), ?_⟩
    generalize hv : (n % 2147483629 + 7919 * t * t + 104729 * t + 13) % 2147483629 = v
    have v0 : 0 ≤ v := by rw [← hv]; exact Int.emod_nonneg _ (by decide)
    have v1 : v < 2147483629 := by rw [← hv]; exact Int.emod_lt_of_pos _ (by decide)
    refine ⟨_, rfl, _, rfl, _, _, rfl, rfl, .inl ⟨by omega, by omega⟩, _, _, rfl, rfl, (by show (0 : Int) < 2147483587; decide), _, rfl, _, _, rfl, rfl, .inr ⟨by omega, by omega⟩, _, _, rfl, rfl, (by show (0 : Int) < 2147483563; decide), ?_⟩
    generalize hu : v * v % 2147483587 * v % 2147483563 = u
    have u0 : 0 ≤ u := by rw [← hu]; exact Int.emod_nonneg _ (by decide)
    have u1 : u < 2147483563 := by rw [← hu]; exact Int.emod_lt_of_pos _ (by decide)
    refine ⟨_, rfl, _, _, rfl, rfl, .inl ⟨by omega, by omega⟩, _, rfl, _, _, rfl, rfl, _, _, rfl, rfl, (by show (0 : Int) < 2147483399; decide), _, _, rfl, rfl, ⟨by decide, by decide⟩, ?_⟩
    exact k _ (by omega) (by omega)
/-! ### _law_store -/
def spStore (K : PySem.W.Frag) : Sp := fun vs H Q _ => ∃ (a : Addr) (ns : List Int), vs = [.ref a] ∧ SqL K H a (ns.map V.int) ∧ ns.length ≤ 63 ∧ ∀ (p sc : Addr) (H' : Hp), Same H H' → H p = none → Sto sc p 0 H' → Q (.ref p) H'
theorem scStore : FnScope ["script", "mixed", "cell"] ["script"] (defScope sStore) := ⟨rfl, rfl, rfl, by decide +kernel, rfl, by decide +kernel, by decide +kernel⟩
theorem map_int_get {ns : List Int} {i : Nat} {y : V} (h : (ns.map V.int)[i]? = some y) : ∃ z, ns[i]? = some z ∧ y = V.int z := by
  rw [List.getElem?_map] at h
  cases e : ns[i]? with
  | none => rw [e] at h; cases h
  | some z => rw [e] at h; exact ⟨z, rfl, (Option.some.inj h).symm⟩
theorem cut63 {ns : List Int} (h : ns.length ≤ 63) : cutV (ns.map V.int) none (some 63) = ns.map V.int := by
  have e1 : HT.sIx (ns.map V.int).length 0 none = 0 := rfl
  have e2 : HT.sIx (ns.map V.int).length (ns.map V.int).length (some 63) = min 63 (ns.map V.int).length := HT.sIx_nat _ _ 63
  unfold cutV
  rw [e1, e2, List.drop_zero]
  exact List.take_of_length_le (by rw [List.length_map]; omega)
theorem ok_store (D : Df K mg "_law_store" sStore ["script"]) (len : mg "len" = none) : Cl P w K mg base CX0 1 "_law_store" ["script"] (spStore K) := by
  refine cl0 D scStore (fun vs H Q E h => ?_) (fun f cdv A outer s H vs Q E hr h => ?_)
  · obtain ⟨a, ns, rfl, _⟩ := h
    rfl
  · obtain ⟨a, ns, rfl, hS, hl, k⟩ := h
    refine ⟨_, pss_cons (ps_set (i := 1) scStore.nd rfl (Or.inl rfl) (pe_callB call_len_seq (by rfl) len PySem.boot_len (pa_cons (pv 0) pa_nil)))
      (pss_cons (ps_for PassesOwn.never rfl (pi_list (pe_slice sl_list (pv 0) po_none (po_some pe_int))) (pg_name (i := 2) scStore.nd rfl (Or.inl rfl))
        (pss_one (ps_set (i := 1) scStore.nd rfl (Or.inl rfl) (pe_op op_mod (pe_op op_add (pe_op op_add (pe_op op_mul (pv 1) pe_int) (pe_op op_mod (pv 2) pe_int)) pe_int) pe_int))))
      (pss_one (ps_ret (pe_lst (pa_cons (pe_slice sl_list (pv 0) po_none (po_some pe_int)) (pa_cons pe_int (pa_cons pe_int (pa_cons (pv 1) (pa_cons pe_int pa_nil))))))))), ?_⟩
    refine ⟨_, rfl, a, _, rfl, .inl hS, ?_⟩
    refine ⟨_, rfl, _, rfl, a, _, rfl, hS, fun p hp => ⟨p, rfl, ⟨_, SqL.of upd_same⟩, ?_⟩⟩
    rw [cut63 hl]
    refine for_list (K := K) (a := p) (xs := ns.map V.int) (fun i σ H' => ∃ (m : Int) (v : Option V), σ = [some (.ref a), some (.int m), v] ∧ 0 ≤ m ∧ m < 2147483648 ∧ H' = upd H p (.lst (ns.map V.int)))
      ⟨_, none, rfl, Int.natCast_nonneg _, by rw [List.length_map]; omega, rfl⟩ (fun i σ H' _ ⟨m, v, _, _, _, e⟩ => by rw [e]; exact SqL.of upd_same) ?_ ?_
    · rintro i y σ H' hi ⟨m, v, rfl, m0, m1, rfl⟩
      obtain ⟨z, _, rfl⟩ := map_int_get hi
      refine ⟨_, rfl, _, _, rfl, rfl, .inl ⟨by omega, by omega⟩, _, rfl, _, _, rfl, rfl, (by show (0 : Int) < 1000000007; decide), _, _, rfl, rfl, _, _, rfl, rfl, _, _, rfl, rfl, (by show (0 : Int) < 2147483629; decide), ?_⟩
      refine ⟨_, _, rfl, Int.emod_nonneg _ (by decide), ?_, rfl⟩
      have q := Int.emod_lt_of_pos (m * 16807 + z % 1000000007 + 11) (show (0 : Int) < 2147483629 by decide)
      omega
    · rintro σ H' ⟨m, v, rfl, m0, m1, rfl⟩
      have s1 : Same H (upd H p (.lst (ns.map V.int))) := same_new hp
      refine ⟨_, rfl, _, rfl, a, _, rfl, s1.seq hS, fun q hq => ?_⟩
      rw [cut63 hl]
      have s2 : Same H (upd (upd H p (.lst (ns.map V.int))) q (.lst (ns.map V.int))) := s1.trans (same_new hq)
      refine ⟨_, rfl, (by show 5 ≤ sizeLine; decide), fun r hr' => ?_⟩
      have nq : q ≠ r := ne_of_none upd_same hr'
      refine k r q _ (s2.trans (same_new hr')) ((s2.trans (Same.refl _)).free hr') ?_
      exact Sto.put nq upd_same hl (by decide) (by decide) (by decide) (by decide)
end
end Vk
namespace Vk
open PySem PySem.Spec PyProof.Rows L2
section
variable {P : Program} {w : World} {K : PySem.W.Frag} {mg : Str → Option Value} {base : Heap}
def spPick : Sp := fun vs H Q _ => ∃ (a sc : Addr) (m n : Int), vs = [.ref a, .int m] ∧ 0 < m ∧ m < 1000000000 ∧ Sto sc a n H ∧ n ≤ 1000000 ∧
  ∀ (r : Int) (H' : Hp), 0 ≤ r → r < m → Sto sc a (n + 1) H' → Kept a H H' → Q (.int r) H'
theorem scPick : FnScope ["store", "count", "cell", "digit"] ["store", "count"] (defScope sPick) := ⟨rfl, rfl, rfl, by decide +kernel, rfl, by decide +kernel, by decide +kernel⟩
theorem ok_pick (D : Df K mg "_law_pick" sPick ["store", "count"]) (M : Cl P w K mg base CX0 1 "_law_mix" ["number", "turn"] spMix) (len : mg "len" = none) : Cl P w K mg base CX0 2 "_law_pick" ["store", "count"] spPick := by
  refine cl0 D scPick (fun vs H Q E h => ?_) (fun f cdv A outer s H vs Q E hr h => ?_)
  · obtain ⟨a, sc, m, n, rfl, _⟩ := h
    rfl
  · obtain ⟨a, sc, m, n, rfl, m0, m1, S, n1, k⟩ := h
    refine ⟨_, pss_cons (ps_asg (pe_op op_add (pe_ix ix_list (pv 0) pe_int (fun _ _ => rfl)) pe_int) (pg_sub (pv 0) pe_int set_list))
      (pss_cons (ps_if (PW.pt (pw_and (pt_cmpR op_eq (pe_ix ix_list (pv 0) pe_int (fun _ _ => rfl)) pe_int (nomark _)) (pw_and1 (pt_cmpR op_lt (pe_ix ix_list (pv 0) pe_int (fun _ _ => rfl)) (pe_callB call_len_seq (by rfl) len PySem.boot_len (pa_cons (pe_ix ix_list (pv 0) pe_int (fun _ _ => rfl)) pa_nil)) (nomark _)))))
        (pss_cons (ps_set (i := 2) scPick.nd rfl (Or.inl rfl) (pe_ix ix_list (pe_ix ix_list (pv 0) pe_int (fun _ _ => rfl)) (pe_ix ix_list (pv 0) pe_int (fun _ _ => rfl)) (fun _ _ => rfl)))
        (pss_cons (ps_asg (pe_op op_add (pe_ix ix_list (pv 0) pe_int (fun _ _ => rfl)) pe_int) (pg_sub (pv 0) pe_int set_list))
        (pss_cons (ps_if (pt_cmpR op_lt (pv 2) (pe_op op_pow pe_int pe_int) (nomark _))
          (pss_one (ps_ret (pe_op op_mod (pc M hr (by decide) (pa_cons (pv 2) (pa_cons (pe_ix ix_list (pv 0) pe_int (fun _ _ => rfl)) pa_nil))) (pv 1)))) pss_nil)
        (pss_one (ps_asg (pv 2) (pg_sub (pv 0) pe_int set_list)))))) pss_nil)
      (pss_cons (ps_if (pt_cmpR op_gt (pe_ix ix_list (pv 0) pe_int (fun _ _ => rfl)) pe_int (nomark _))
        (pss_cons (ps_set (i := 3) scPick.nd rfl (Or.inl rfl) (pe_op op_mod (pe_ix ix_list (pv 0) pe_int (fun _ _ => rfl)) (pv 1)))
        (pss_cons (ps_asg (pe_op op_fdiv (pe_ix ix_list (pv 0) pe_int (fun _ _ => rfl)) (pv 1)) (pg_sub (pv 0) pe_int set_list))
        (pss_one (ps_ret (pv 3))))) pss_nil)
      (pss_one (ps_ret (pe_op op_mod (pc M hr (by decide) (pa_cons (pe_ix ix_list (pv 0) pe_int (fun _ _ => rfl)) (pa_cons (pe_ix ix_list (pv 0) pe_int (fun _ _ => rfl)) pa_nil))) (pv 1)))))), ?_⟩
    obtain ⟨cs, i, dg, mx, c, hH, ns, hq, hl, i0, d0, c0, cn⟩ := S.ex
    have fill : ∀ (G : Hp) (i' dg' c' : Int), Off a G = Off a H → 0 ≤ i' → 0 ≤ dg' → 0 ≤ c' → c' ≤ n + 1 → G a = some (.lst [.ref sc, .int i', .int dg', .int mx, .int c']) → Sto sc a (n + 1) G ∧ Kept a H G := fun G i' dg' c' e h1 h2 h3 h4 h5 =>
      ⟨⟨cs, i', dg', mx, c', h5, ns, (off_sub a G).at (by rw [e, off_ne ns]; exact hq), hl, h1, h2, h3, h4⟩, by unfold Kept; rw [e]; exact Same.refl _⟩
    -- store[4] = store[4] + 1
    refine ⟨_, rfl, a, _, _, _, rfl, rfl, SqL.of hH, rfl, _, _, rfl, rfl, _, rfl, a, _, _, _, rfl, rfl, hH, rfl, ?_⟩
    -- the mix at the end
    have fin : ∀ (G : Hp) (i' dg' x r : Int), Off a G = Off a H → 0 ≤ i' → 0 ≤ dg' → G a = some (.lst [.ref sc, .int i', .int dg', .int mx, .int (c + 1)]) → Q (.int (r % m)) G := fun G i' dg' x r e h1 h2 h3 => by
      obtain ⟨s1, s2⟩ := fill G i' dg' (c + 1) e h1 h2 (by omega) (by omega) h3
      exact k _ G (Int.emod_nonneg _ (by omega)) (Int.emod_lt_of_pos _ m0) s1 s2
    have fin2 : ∀ (G : Hp) (i' dg' r : Int), Off a G = Off a H → 0 ≤ i' → 0 ≤ dg' → 0 ≤ r → r < m → G a = some (.lst [.ref sc, .int i', .int dg', .int mx, .int (c + 1)]) → Q (.int r) G := fun G i' dg' r e h1 h2 q1 q2 h3 => by
      obtain ⟨s1, s2⟩ := fill G i' dg' (c + 1) e h1 h2 (by omega) (by omega) h3
      exact k _ G q1 q2 s1 s2
    have hqG : ∀ G : Hp, Off a G = Off a H → SqL K G sc (cs.map V.int) := fun G e => SqL.of ((off_sub a G).at (by rw [e, off_ne ns]; exact hq))
    have oG : ∀ o, Off a (upd H a o) = Off a H := fun o => off_upd
    have oG2 : ∀ o u, Off a (upd (upd H a o) a u) = Off a H := fun o u => by rw [off_upd, off_upd]
    have oG3 : ∀ o u v, Off a (upd (upd (upd H a o) a u) a v) = Off a H := fun o u v => by rw [off_upd, off_upd, off_upd]
    refine ⟨_, rfl, a, _, _, _, rfl, rfl, SqL.of upd_same, rfl, rfl, _, rfl, ?_⟩
    refine ite2 (fun hd => ?_) (fun hd => ?_)
    · have hd0 : dg = 0 := by
        have z := of_decide_eq_true hd
        exact V.int.inj z
      subst hd0
      refine ⟨_, rfl, a, _, _, _, rfl, rfl, SqL.of upd_same, rfl, _, rfl, a, _, _, _, rfl, rfl, SqL.of upd_same, rfl, sc, _, rfl, .inl (hqG _ (oG _)), _, _, rfl, rfl, _, rfl, ?_⟩
      refine ite2 (fun hi => ?_) (fun hi => ?_)
      · have hi0 : i < (cs.map V.int).length := of_decide_eq_true hi
        have hj : i.toNat < cs.length := by rw [List.length_map] at hi0; omega
        have hc : (cs.map V.int)[i.toNat]? = some (V.int cs[i.toNat]) := by rw [List.getElem?_map, List.getElem?_eq_getElem hj]; rfl
        have ha : atI (cs.map V.int) i = some (V.int cs[i.toNat]) := by
          have z := atI_nat hc
          rw [Int.toNat_of_nonneg i0] at z
          exact z
        -- cell = store[0][store[1]]; store[1] = store[1] + 1
        refine ⟨_, rfl, a, _, _, _, rfl, rfl, SqL.of upd_same, rfl, _, rfl, a, _, _, _, rfl, rfl, SqL.of upd_same, rfl, sc, _, _, _, rfl, rfl, hqG _ (oG _), ha, ?_⟩
        refine ⟨_, rfl, a, _, _, _, rfl, rfl, SqL.of upd_same, rfl, _, _, rfl, rfl, _, rfl, a, _, _, _, rfl, rfl, upd_same, rfl, ?_⟩
        -- if cell < 10 ** 18
        refine ⟨_, rfl, _, _, rfl, rfl, ⟨by decide, by decide, by decide⟩, _, _, rfl, rfl, _, rfl, ?_⟩
        refine ite2 (fun hx => ?_) (fun hx => ?_)
        · refine ⟨_, rfl, _, rfl, a, _, _, _, rfl, rfl, SqL.of upd_same, rfl, _, _, rfl, by omega, by omega, fun r r0 r1 => ?_⟩
          exact ⟨_, rfl, _, _, rfl, rfl, m0, fin _ (i + 1) 0 0 r (oG2 _ _) (by omega) (by decide) upd_same⟩
        · have hx0 : ¬ cs[i.toNat] < 10 ^ 18 := fun z => hx (decide_eq_true z)
          -- store[2] = cell
          refine ⟨_, rfl, _, rfl, a, _, _, _, rfl, rfl, upd_same, rfl, ?_⟩
          refine ⟨_, rfl, a, _, _, _, rfl, rfl, SqL.of upd_same, rfl, _, _, rfl, rfl, _, rfl, ?_⟩
          refine ite2 (fun _ => ?_) (fun z => absurd (decide_eq_true (show (0 : Int) < cs[i.toNat] by omega)) z)
          refine ⟨_, rfl, a, _, _, _, rfl, rfl, SqL.of upd_same, rfl, _, rfl, _, _, rfl, rfl, m0, ?_⟩
          refine ⟨_, rfl, a, _, _, _, rfl, rfl, SqL.of upd_same, rfl, _, rfl, _, _, rfl, rfl, ⟨m0, by omega⟩, _, rfl, a, _, _, _, rfl, rfl, upd_same, rfl, ?_⟩
          refine ⟨_, rfl, ?_⟩
          exact fin2 _ (i + 1) (cs[i.toNat] / m) _ (by rw [off_upd, off_upd, off_upd, off_upd]) (by omega) (Int.ediv_nonneg (by omega) (by omega)) (Int.emod_nonneg _ (by omega)) (Int.emod_lt_of_pos _ m0) upd_same
      · refine ⟨_, rfl, a, _, _, _, rfl, rfl, SqL.of upd_same, rfl, _, _, rfl, rfl, _, rfl, ?_⟩
        refine ite2 (fun z => absurd (of_decide_eq_true z) (by decide)) (fun _ => ?_)
        refine ⟨_, rfl, a, _, _, _, rfl, rfl, SqL.of upd_same, rfl, _, rfl, a, _, _, _, rfl, rfl, SqL.of upd_same, rfl, _, _, rfl, by omega, by omega, fun r r0 r1 => ?_⟩
        exact ⟨_, rfl, _, _, rfl, rfl, m0, fin _ i 0 0 r (oG _) i0 (by decide) upd_same⟩
    · have hd0 : ¬ dg = 0 := fun z => hd (decide_eq_true (by rw [z]))
      refine iteF ?_
      refine ⟨_, rfl, a, _, _, _, rfl, rfl, SqL.of upd_same, rfl, _, _, rfl, rfl, _, rfl, ?_⟩
      refine ite2 (fun _ => ?_) (fun z => absurd (decide_eq_true (show (0 : Int) < dg by omega)) z)
      refine ⟨_, rfl, a, _, _, _, rfl, rfl, SqL.of upd_same, rfl, _, rfl, _, _, rfl, rfl, m0, ?_⟩
      refine ⟨_, rfl, a, _, _, _, rfl, rfl, SqL.of upd_same, rfl, _, rfl, _, _, rfl, rfl, ⟨m0, by omega⟩, _, rfl, a, _, _, _, rfl, rfl, upd_same, rfl, ?_⟩
      refine ⟨_, rfl, ?_⟩
      exact fin2 _ i (dg / m) _ (by rw [off_upd, off_upd]) i0 (Int.ediv_nonneg (by omega) (by omega)) (Int.emod_nonneg _ (by omega)) (Int.emod_lt_of_pos _ m0) upd_same
end
end Vk
/-! enumerate over a tuple: the pairs are new tuples -/
namespace PySem
set_option maxHeartbeats 4000000 in
theorem vx_enumNew {v : Value} {cell : Obj} {Hh : Heap → Prop} (B : Begins v cell Hh) :
    Meets (Builtin.«enumerate.__new__» ⟨[.type "enumerate", v], []⟩) (fun _ R s => Hh s.heap ∧
      R (.ok (.ret (.ref (s.heap.push cell).objs.size)))
        { s with heap := (s.heap.push cell).push { cls := .type "enumerate", data := .fields #[.none, .bool false, .ref s.heap.objs.size, rawInt 0, .none, .none] } }) :=
  .of_wp fun prog w A R s h => by
    obtain ⟨hp, gs, dr, tk, os⟩ := s
    obtain ⟨hbeg, h⟩ := h
    have subE := sub_enumerate
    have itOf : ∀ {A2 : Around} {E2 : Value → Shared → Prop} {Q2 : Value → Shared → Prop}, Q2 (.ref hp.objs.size) ⟨hp.push cell, gs, dr, tk, os⟩ → wpAny (model prog w) A2 (pyIter v) Q2 E2 ⟨hp, gs, dr, tk, os⟩ :=
      fun q => B.iter prog w _ _ ⟨hp, gs, dr, tk, os⟩ _ hbeg q
    wp_walk using itOf
    refine wpAny_stack_any fun st => wpAny_pure ?_
    split
    · rename_i cc _ _ _ _ _
      cases (cc == Value.type "enumerate") <;> (wp_walk using itOf; exact ⟨_, rfl, h⟩)
    · wp_walk using itOf
      exact ⟨_, rfl, h⟩
section
variable {prog : Program} {w : World} {A : Around} {E : Value → Shared → Prop} {s : Shared}
theorem vx_callEnum {v : Value} {cell : Obj} {Hh : Heap → Prop} {Q : Value → Shared → Prop} (B : Begins v cell Hh) (hbeg : Hh s.heap)
    (h : ∀ h', IsEnum h' (s.heap.objs.size + 1) s.heap.objs.size 0 .none → h'.get? s.heap.objs.size = some cell → (∀ b o, s.heap.get? b = some o → h'.get? b = some o) →
      Q (.ref (s.heap.objs.size + 1)) { s with heap := h' }) :
    wpAny (model prog w) A (call (.type "enumerate") [v]) Q E s := by
  refine callType_new F.called_enumerate (by decide) (F.typeCall_enumerate_1 _) (F.newCall_enumerate_1 _) (fun obj => F.args_object_init_2 obj _) F.entry_enumerate_new
    (vx_enumNew B) ⟨hbeg, ?_⟩
  have sz : (s.heap.push cell).objs.size = s.heap.objs.size + 1 := Heap.size_push ..
  show _ ∧ _
  rw [sz]
  have en : IsEnum ((s.heap.push cell).push { cls := .type "enumerate", data := .fields #[.none, .bool false, .ref s.heap.objs.size, rawInt 0, .none, .none] }) (s.heap.objs.size + 1) s.heap.objs.size 0 .none := by
    have got := Heap.get?_push_size (s.heap.push cell) (o := { cls := .type "enumerate", data := .fields #[.none, .bool false, .ref s.heap.objs.size, rawInt 0, .none, .none] }) rfl
    rw [sz] at got
    exact got
  exact ⟨⟨_, en, rfl⟩, h _ en (Heap.get?_push_of_some _ (Heap.get?_push_size _ B.free)) fun b o x => Heap.get?_push_of_some _ (Heap.get?_push_of_some _ x)⟩
end
end PySem
namespace L2
open PySem PySem.Spec PyProof.Rows
/-- what enumerate gives over the tuple at a: its items in new pairs -/
def IteT (K : PySem.W.Frag) (a : Addr) : It :=
  ⟨fun i H => ∃ (ys : List V) (y : V), SqT K H a ys ∧ ys[i]? = some y, fun i H v H' => ∃ T y, v = .ref T ∧ H T = none ∧ H' = upd H T (.tup [.int (i : Nat), y]) ∧ ∀ ys, SqT K H a ys → ys[i]? = some y,
    fun i H => ∃ ys : List V, SqT K H a ys ∧ ys.length = i⟩
theorem vx_turn {P : Program} {w : World} {K : PySem.W.Frag} {elts : List Expr} {kk : Nat} {tpos : Pos} (a e it : Addr) :
    Turn P w K (.Tuple elts kk tpos) (IteT K a) [e, it] e (fun i h => (∃ old, IsEnum h e it ((i : Nat) : Int) old) ∧ h.IsTupleIter it a i ∧ e ≠ it ∧ a ≠ it ∧ e ≠ a) where
  mem := List.mem_cons_self
  obj := fun i h st b hb => by
    obtain ⟨⟨old, en⟩, ⟨o, ho, hc, hd⟩, _⟩ := st
    have two : b = e ∨ b = it := by simpa using hb
    rcases two with z | z
    · subst z
      exact ⟨_, en, fun v q => nomatch q⟩
    · subst z
      exact ⟨o, ho, fun v q => by rw [hd] at q; cases q⟩
  keep := fun i h h' st k => by
    obtain ⟨⟨old, en⟩, hi, r⟩ := st
    exact ⟨⟨old, k e (by simp) _ en⟩, hi.at fun o q => k it (by simp) o q, r⟩
  item := by
    intro X hP hw hK hc i pins s σ H E I hf st hg
    subst hP hw hK
    obtain ⟨⟨old, en⟩, hit, nei, nai, nea⟩ := st
    obtain ⟨ys, y, hq, hy⟩ := hg
    obtain ⟨its, rv, p, _⟩ := I.tuple hq
    obtain ⟨u, hu, ru⟩ := rv.get hy
    have le : e < s.heap.objs.size := Heap.lt_size en
    have li : it < s.heap.objs.size := by obtain ⟨_, q, _⟩ := hit; exact Heap.lt_size q
    have hin : X.A.in1.handled = none := I.ok.hd hc
    have ilt : i < its.toArray.size := by
      have z := (List.getElem?_eq_some_iff.mp hu).1
      rw [List.size_toArray]
      exact z
    refine wpAny_pyNext_enum_itemD (Draws.tuple hin it a nai its.toArray) en ⟨hit, p⟩ ilt nei (by simp [nei, nea]) fun x h2 tk hx eo st2 hT hsz hk => ?_
    have ex : x = u := by
      have z : its.toArray[i]? = some x := hx
      rw [List.getElem?_toArray, hu] at z
      exact (Option.some.inj z).symm
    subst ex
    refine ⟨_, rfl, wpAny_letOwnedTupleGo_enum (s := { s with heap := h2, toks := tk + 1 }) eo fun h3 he3 sb => ?_⟩
    have hT3 : h3.get? s.heap.objs.size = some { cls := .type "tuple", data := .seq #[.int i tk, x] } := (sb.2 _ (Nat.ne_of_gt le)).trans hT
    have new : ObjOk X.prog X.w (upd H s.heap.objs.size (.tup [.int (i : Nat), y])) h3 s.heap.objs.size (.tup [.int (i : Nat), y]) :=
      ⟨(by show 2 ≤ sizeLine; decide), [.int i tk, x], .cons ⟨_, rfl⟩ (.cons ru .nil), ⟨_, hT3, rfl, _, rfl⟩⟩
    have J : Inv X pins σ (upd H s.heap.objs.size (.tup [.int (i : Nat), y])) { s with heap := h3, toks := tk + 1 } :=
      I.turnedNew (ch := [e, it]) (fun b ob hb q => by
        have n1 : b ≠ e := fun z => hb (by simp [z])
        have n2 : b ≠ it := fun z => hb (by simp [z])
        exact (sb.2 b n1).trans (hk b ob n1 n2 q)) hf (Nat.le_refl _) new
    refine ⟨.ref s.heap.objs.size, _, J, rfl, ⟨_, y, rfl, I.hok.fresh (Nat.le_refl _), rfl, fun zs hz => by rw [I.tuple_inj hz hq]; exact hy⟩, ⟨⟨x, ?_⟩, st2.1.at fun o q => (sb.2 it (Ne.symm nei)).trans q, nei, nai, nea⟩, fun b hb => ?_⟩
    · have en2 : ((i + 1 : Nat) : Int) = (i : Int) + 1 := by omega
      rw [en2]
      exact he3
    · have lb : b < s.heap.objs.size := by
        have two : b = e ∨ b = it := by simpa using hb
        rcases two with z | z
        · rw [z]; exact le
        · rw [z]; exact li
      rw [upd_ne (Nat.ne_of_lt lb)]
      exact (hf b hb).1
  done := by
    intro X hP hw hK hc i pins s σ H E I hf st hg
    subst hP hw hK
    obtain ⟨⟨old, en⟩, hit, nei, nai, nea⟩ := st
    obtain ⟨ys, hq, hy⟩ := hg
    obtain ⟨its, rv, p, _⟩ := I.tuple hq
    obtain ⟨f0, f1, f2, f3, f4, f5⟩ := hf it (by simp)
    have hl := rv.length
    have hi : i = its.toArray.size := by rw [List.size_toArray]; omega
    subst hi
    have hin : X.A.in1.handled = none := I.ok.hd hc
    exact wpAny_pyNext_enum_endD (Draws.tuple hin it a nai its.toArray) en ⟨hit, p⟩ fun h2 eb => ⟨rfl, I.turned (t' := s.toks) (fun b o hb q => eb b o hb q) f0 f1 f3 f4 f5⟩
  self := fun A i s Q E st h => by
    obtain ⟨⟨_, en⟩, _⟩ := st
    exact wpAny_pyIter_enum en h
def iEnumT (K : PySem.W.Frag) (ta : TA) : TI := fun σ H R => ta σ H fun vs H1 => ∃ a ys, vs = [.ref a] ∧ SqT K H1 a ys ∧ R (IteT K a) H1
theorem pi_enumT {X : Cx} {e : Expr} {ta : TA} {p pos tpos : Pos} {elts : List Expr} {kk : Nat} (hm : X.mg "enumerate" = none) (ha : PA X [e] ta) (hg : Gl X "enumerate" := by rfl) (hs : starEach [e] X.env = [(false, eval e X.env)] := by rfl) :
    PI X (.Tuple elts kk tpos) (.Call (.Name "enumerate" p) [e] [] pos) (iEnumT X.K ta) := by
  refine ⟨fun pins s σ H R I h => ?_⟩
  refine Call_ (ld_blt I hg hm boot_enumerate (PyProof.Rows.callWith_type1 (thn (ha.run pos pins s σ H _ I h) fun us s1 ⟨vs, H1, I1, r1, q1⟩ => ?_) hs rfl))
  obtain ⟨a, ys, ex, hq, q⟩ := q1
  subst ex
  cases r1 with
  | cons r rr =>
    cases rr
    cases r
    obtain ⟨its, rv, p2, _⟩ := I1.tuple hq
    have la : a < s1.heap.objs.size := by obtain ⟨_, z, _⟩ := p2; exact Heap.lt_size z
    refine vx_callEnum (begins_tuple a its.toArray) p2 fun h2 he hit hk => wpAny_pyIter_enum he ?_
    have I2 : Inv X pins σ H1 { s1 with heap := h2 } := I1.kept (t' := s1.toks) hk
    refine ⟨s1.heap.objs.size + 1, [s1.heap.objs.size + 1, s1.heap.objs.size], _, _, H1, rfl, I2, vx_turn a (s1.heap.objs.size + 1) s1.heap.objs.size,
      ⟨⟨.none, he⟩, ⟨_, hit, rfl, rfl⟩, Nat.succ_ne_self _, Nat.ne_of_lt la, Nat.ne_of_gt (Nat.lt_succ_of_lt la)⟩, fun b hb => ?_, q⟩
    have two : b = s1.heap.objs.size + 1 ∨ b = s1.heap.objs.size := by simpa using hb
    have hle : s1.heap.objs.size ≤ b := by
      rcases two with z | z
      · rw [z]; exact Nat.le_succ _
      · rw [z]; exact Nat.le_refl _
    exact I1.fpOk hle (I1.hok.fresh hle)
/-- turn by turn, the tuple standing still -/
theorem walk_enumT {K : PySem.W.Frag} {a : Addr} {xs : List V} : Walk (IteT K a) xs.length (fun H => SqT K H a xs) (YPair (fun i => some (.int (i : Nat))) (fun i => xs[i]?)) := by
  refine ⟨fun i _ hi q => ⟨xs, xs[i], q, by simp [hi]⟩, fun _ q => ⟨xs, q, rfl⟩, fun i H v H' _ q y => ?_⟩
  obtain ⟨T, x, h1, h2, h3, h4⟩ := y
  exact ⟨T, .int (i : Nat), x, h1, h2, h3, rfl, h4 xs q⟩
end L2
/-! an exception that its except suite gives to another name: it is tracked from there on -/
namespace Vk
open PySem PySem.Spec PyProof.Rows L2
/-- at a: an exception of the class cls, its dict d -/
def Xco (a : Addr) (cls : Value) (d : Option Addr) : HO := .ext fun h => ∃ (oe : Obj) (vs : Array Value), h.get? a = some oe ∧ Zc cls d oe ∧ oe.data = .fields vs
theorem xco_ok {P : Program} {w : World} {H : Hp} {h : Heap} {a : Addr} {cls : Value} {d : Option Addr} {oe : Obj} {vs : Array Value} (e : h.get? a = some oe) (z : Zc cls d oe) (f : oe.data = .fields vs) : ObjOk P w H h a (Xco a cls d) :=
  ⟨⟨oe, vs, e, z, f⟩, ⟨oe, e⟩, fun _ _ ⟨o, v, q, r⟩ k => ⟨o, v, k o q, r⟩⟩
theorem xco_at {P : Program} {w : World} {H : Hp} {h : Heap} {a : Addr} {cls : Value} {d : Option Addr} (hok : HOk P w H h) (e : H a = some (Xco a cls d)) : ∃ (oe : Obj) (vs : Array Value), h.get? a = some oe ∧ Zc cls d oe ∧ oe.data = .fields vs := by
  have x : ObjOk P w H h a (.ext fun h => ∃ (oe : Obj) (vs : Array Value), h.get? a = some oe ∧ Zc cls d oe ∧ oe.data = .fields vs) := hok a _ e
  exact x.1
section
variable {X : Cx} {pins : List (Addr × Obj)} {σ : L2.St} {H : Hp} {s : Shared}
theorem inv_track {a : Addr} {o : HO} (I : Inv X pins σ H s) (hn : H a = none) (n0 : ∀ ob, X.s_0.heap.get? a = some ob → False) (nL : a ≠ X.env.locals) (nC : ∀ x c, X.env.cells.lookup x = some c → c ≠ a) (nP : ∀ p ∈ X.pn ++ pins, p.1 ≠ a)
    (new : ObjOk X.prog X.w (upd H a o) s.heap a o) : Inv X pins σ (upd H a o) s := by
  have ne : ∀ {b : Addr} {u : HO}, H b = some u → b ≠ a := fun q => ne_of_none q hn
  have b1 : Un X.fs X.ex X.H_0 (upd H a o) X.s_0.heap s.heap := {
      keep := I.base.keep
      slot := I.base.slot
      free := fun b u q n x => by
        have nb : b ≠ a := fun z => by
          rw [z] at q
          exact n0 u q
        rw [upd_ne nb]
        exact I.base.free b u q n x
      there := I.base.there
      tups := fun b xs q => by
        have z := I.base.tups b xs q
        rw [upd_ne (ne z)]
        exact z
      frzs := fun b u xs q => by
        have z := I.base.frzs b u xs q
        rw [upd_ne (ne z)]
        exact z
      tbls := fun b ps q => by
        obtain ⟨m, z⟩ := I.base.tbls b ps q
        exact ⟨m, by rw [upd_ne (ne z)]; exact z⟩ }
  refine ⟨I.ok, I.os, I.bare, b1, I.loc, I.cell, ?_, ?_, ?_, ?_, I.len⟩
  · rw [upd_ne nL.symm]
    exact I.free
  · intro x c q
    rw [upd_ne (nC x c q)]
    exact I.freeC x c q
  · intro p hp
    obtain ⟨h1, h2, h3⟩ := I.pin p hp
    exact ⟨h1, by rw [upd_ne (nP p hp)]; exact h2, h3⟩
  · intro b u q
    by_cases hb : b = a
    · subst hb
      rw [upd_same] at q
      cases q
      exact new
    · rw [upd_ne hb] at q
      refine (I.hok b u q).stay (fun c v _ z => z) (fun c z => ?_) (fun c xs z => ?_)
      · rw [upd_ne (ne z)]
        exact z
      · rw [upd_ne (ne z)]
        exact z
end
/-- what «except C as n: suite» wishes where the suite keeps the exception -/
def wKeep (K : PySem.W.Frag) (c : Value) (i : Nat) (ts : Addr → Value → Option Addr → TS) (D : Ends) : WX := fun cls d σ H =>
  PySem.W.exmOne K cls c = some true ∧ ∀ a, H a = none → ts a cls d { nx := fun σ' H' => H' a = none → D.nx (σ'.set i none) (upd H' a (Xco a cls d)), rt := fun _ _ => False } (σ.set i (some (.ref a))) H
section
variable {X : Cx} {x n : Str} {c : Value} {i : Nat} {body more : List Stmt} {b₀ : Stmt} {np pos pos' : Pos} {tb : WX → TS} {ts : Addr → Value → Option Addr → TS}
theorem ps_try_keep (hs : X.stack = X.env :: X.outer) (hf : X.env.frame = some X.env.locals) (hex : X.ex = []) (hN : X.N.Nodup) (hi : X.N[i]? = some n) (hln : X.env.kindOf n = some .local) (hg : Gl X x) (hm : X.mg x = some c)
    (hdb : (x == ("__debug__" : Str)) = false)
    (hb : ∀ (W : WX) (pn : List (Addr × Obj)) (xe : Value → Shared → Prop), Takes (X.tr pn xe) W → PassesOwn (model X.prog X.w) X.A X.env xe → PSs (X.tr pn xe) body (tb W))
    (hsu : ∀ (a : Addr) (oe : Obj) (cls : Value) (d : Option Addr) (pn : List (Addr × Obj)), Zc cls d oe → (∃ vs, oe.data = .fields vs) → PSs (X.suite a ((a, oe) :: pn)) (b₀ :: more) (ts a cls d)) :
    PS X (.Try body [.ExceptHandler (some (.Name x np)) (some n) (b₀ :: more) pos'] [] [] pos) (fun D σ H => tb (wKeep X.K c i ts D) D σ H) := by
  refine ⟨fun pins s σ H D I h => ?_⟩
  have ok := I.ok
  have frames : X.A.frames = some (X.env :: X.outer) := by rw [ok.frames, hs]
  refine wpAny_Try_except (wpAny_mono ((hb (wKeep X.K c i ts D) (X.pn ++ pins) _ (fun u s2 air => ?_) PassesOwn.looking).run [] s σ H D (I.toTry _) h) (fun f s2 sp => ?_) (fun _ _ z => z))
  · obtain ⟨a, B, sI, pins2, σ2, H2, cls, d, rfl, J2, ground, up, sky, na, os, ag, match1, suite⟩ := air
    have J : Inv X pins σ2 H2 sI := J2.ofTry ok
    have air2 : Sky B (X.env :: X.outer) a (Zc cls d) X.env.locals s2.heap := by rw [← hs]; exact sky
    -- a stands in no frame, and is new
    refine Sky.land Zc.steady frames hf air2 fun h3 fly3 up3 => ?_
    have K3 : Inv X pins σ2 H2 { s2 with heap := h3 } := J.landed ground fly3.1 (up.trans up3) os ag
    obtain ⟨o3, v3, get3, z3, dat3⟩ := fly3.there
    have outFr : a ∉ frs (X.env :: X.outer) := fun hm2 => by
      obtain ⟨_, o4, get4, nf⟩ := fly3.2.2.1.mem hm2
      rw [get3] at get4
      cases get4
      exact nf _ dat3
    have noL : a ≠ X.env.locals := fun z => outFr (List.mem_filterMap.mpr ⟨X.env, List.mem_cons_self, by rw [hf, z]⟩)
    have noF : a ∉ X.fs := fun hm2 => by
      obtain ⟨e, he, q⟩ := List.mem_filterMap.mp hm2
      exact outFr (List.mem_filterMap.mpr ⟨e, List.mem_cons_of_mem _ he, q⟩)
    have outI : ∀ ob, sI.heap.get? a = some ob → False := fun ob q => by
      have z := ground a ob q (by rw [show (X.tr (X.pn ++ pins) _).stack = X.stack from rfl, hs]; exact outFr)
      rw [fly3.2.1] at z
      cases z
    have out0 : ∀ ob, X.s_0.heap.get? a = some ob → False := fun ob q => by
      obtain ⟨o5, z⟩ := J.base.there a ob q (by rw [hex]; exact fun y => nomatch y)
      exact outI _ z
    have noC : ∀ y cc, X.env.cells.lookup y = some cc → cc ≠ a := fun y cc q z => by
      obtain ⟨v, o6, get6, _⟩ := J.cell y cc q
      rw [z] at get6
      exact outI _ get6
    have noP : ∀ p ∈ X.pn ++ pins, p.1 ≠ a := fun p hp z => by
      have q := (J.pin p hp).1
      rw [z] at q
      exact outI _ q
    refine wpAny_handleBy_cons (codeAny_handlers_test ?_) (by intro q; cases q)
    have isC : PySem.W.Looks (model X.prog X.w) h3 (typeOf (.ref a)) cls := fun A2 Q2 E2 s4 kk q => wpAny_typeOf_ref (kk _ _ get3) (by rw [z3.1]; exact q)
    refine ld_glob (X := X.suite a ((a, o3) :: (X.pn ++ pins))) (K3.suite get3 dat3 na noL noF) hg hm ?_ hdb
    refine (PySem.W.exm_one (M := model X.prog X.w) K3.kIn isC match1).here (codeAny_handlers_suite_as ?_)
    refine HandSPX.lands_againZ fly3 fun h4 fly4 up4 => ?_
    have K4 : Inv X pins σ2 H2 { s2 with heap := h4 } := J.landed ground fly4.1 ((up.trans up3).trans up4) os ag
    obtain ⟨o4, v4, get4, z4, dat4⟩ := fly4.there
    refine store_ok (X := X.suite a ((a, o4) :: (X.pn ++ pins))) (v := .ref a) (K4.suite get4 dat4 na noL noF) hN hi (.inl hln) rfl (fun s5 S5 => ?_) (.inr hln)
    refine wpAny_mono ((hsu a o4 cls d (X.pn ++ pins) z4 ⟨_, dat4⟩).run [] s5 _ H2 _ S5 (suite a na)) (fun f s6 sp => ?_) (fun _ _ z => False.elim z)
    cases f with
    | next =>
      obtain ⟨σ6, H6, S6, q6⟩ := sp
      obtain ⟨get6, n6, _⟩ := S6.pin (a, o4) (List.mem_append_left _ List.mem_cons_self)
      have T6 : Inv X pins σ6 (upd H6 a (Xco a cls d)) s6 := inv_track (S6.unsuite ok) n6 out0 noL noC noP (xco_ok get6 z4 dat4)
      exact gone_ok T6 hN hi hln fun s7 T7 => ⟨_, _, T7, q6 n6⟩
    | brk =>
      obtain ⟨_, _, _, z⟩ := sp
      exact False.elim z
    | cont =>
      obtain ⟨_, _, _, z⟩ := sp
      exact False.elim z
    | ret u =>
      obtain ⟨_, _, _, _, _, z⟩ := sp
      exact False.elim z
  · cases f with
    | next =>
      obtain ⟨σ2, H2, J, q⟩ := sp
      exact wpAny_execs_nil ⟨σ2, H2, J.ofTry ok, q⟩
    | brk =>
      obtain ⟨σ2, H2, J, q⟩ := sp
      exact ⟨σ2, H2, J.ofTry ok, q⟩
    | cont =>
      obtain ⟨σ2, H2, J, q⟩ := sp
      exact ⟨σ2, H2, J.ofTry ok, q⟩
    | ret u =>
      obtain ⟨v, σ2, H2, J, r, q⟩ := sp
      exact ⟨v, σ2, H2, J.ofTry ok, r, q⟩
end
/-! ### what is asked of it later -/
theorem xco_inst {X : Cx} {pins : List (Addr × Obj)} {σ : L2.St} {H : Hp} {s : Shared} {a C : Addr} {d : Option Addr} (I : Inv X pins σ H s) (e : H a = some (Xco a (.ref C) d)) (hd : ∀ dd, d = some dd → ∃ fs, H dd = some (.xd fs)) :
    ∃ oe od, PySem.W.InstAt s.heap a oe C od := by
  obtain ⟨⟨oc, odd, dat, sl⟩, vs, get, ⟨z1, z2⟩, f⟩ := xco_at I.hok e
  dsimp only at z1 z2 f
  subst z1 z2 f
  cases odd with
  | none => exact ⟨_, none, get, rfl, rfl, trivial⟩
  | some dd =>
    obtain ⟨fs, hx⟩ := hd dd rfl
    have ok : ObjOk X.prog X.w H s.heap dd (.xd fs) := I.hok dd _ hx
    obtain ⟨mA, ⟨o2, _, _, get2, _⟩, _⟩ := ok
    exact ⟨_, some o2, get, rfl, rfl, get2⟩
/-- isinstance(e, c) of such an exception -/
def rIsX (K : PySem.W.Frag) : List V → Hp → VK → Prop := fun xs H Q => ∃ (a C : Addr) (d : Option Addr) (c : V) (u : Value) (b : Bool), xs = [.ref a, c] ∧ H a = some (Xco a (.ref C) d) ∧ (∀ dd, d = some dd → ∃ fs, H dd = some (.xd fs)) ∧
  ExcC K C ∧ ClsV c u ∧ PySem.W.kitOne K (.ref C) u = some b ∧ Q (.bl b) H
theorem call_isX {X : Cx} : CallR X (.builtin "isinstance") (rIsX X.K) := by
  intro pins s σ H xs us Q I r h
  obtain ⟨a, C, d, c, u, b, rfl, e, hd, T, k, hk, q⟩ := h
  obtain ⟨u1, u2, rfl, r1, r2⟩ := vals2 r
  cases r1
  have e2 := k.eq r2
  subst e2
  obtain ⟨oe, od, inst⟩ := xco_inst I e hd
  have cl : (PySem.W.clsIn X.K C).isSome = true := by
    obtain ⟨cd, hc, _⟩ := PySem.W.any_some T.hd
    rw [hc]
    rfl
  exact PySem.W.kia_one (PySem.W.kitx_exc (od := od) cl T.hg T.hk T.hs T.ha T.hn T.ht T.hm) I.kIn inst hk (fun z => nomatch z) fun tk => ⟨.bl b, H, I.tok tk, rfl, q⟩
/-- e.f of such an exception -/
def tXp (K : PySem.W.Frag) (f : Str) (te : TE) : TE := fun σ H Q => te σ H fun x H1 => ∃ (a C dd : Addr) (fs : List (Str × V)) (v : V), x = .ref a ∧ H1 a = some (Xco a (.ref C) (some dd)) ∧ H1 dd = some (.xd fs) ∧ fs.lookup f = some v ∧
  XfC K C ∧ PySem.W.findIn K (.ref C) f = some none ∧ Q v H1
theorem pe_xp {X : Cx} {e : Expr} {te : TE} {pos : Pos} {n : Str} (he : PE X e te) (hb : attributeBase e n X.env (eval e X.env) = eval e X.env := by rfl) : PE X (.Attribute e n pos) (tXp X.K n te) := by
  refine ⟨fun pins s σ H Q I h => attr_of hb (thn (he.run pins s σ H _ I h) fun u s1 got => ?_)⟩
  obtain ⟨x, H1, I1, rx, a, C, dd, fs, v, rfl, ea, ed, hl, T, hno, q⟩ := got
  cases rx
  obtain ⟨⟨oc, odd, dat, sl⟩, vs, get, ⟨z1, z2⟩, f⟩ := xco_at I1.hok ea
  dsimp only at z1 z2 f
  subst z1 z2 f
  have ok : ObjOk X.prog X.w H1 s1.heap dd (.xd fs) := I1.hok dd _ ed
  obtain ⟨mA, hns, hr⟩ := ok
  obtain ⟨od, ho, look⟩ := lookIn_ns hns
  obtain ⟨y, hy, ry⟩ := RelO.some_of (v := v) (o := mA n) (by rw [← hl]; exact hr n)
  have inst : PySem.W.InstAt s1.heap a ⟨.ref C, some dd, .fields vs, sl⟩ C (some od) := ⟨get, rfl, rfl, ho⟩
  exact HandSPX.exc_get I1.kIn inst T.ga T.gg T.exC (PySem.W.findObj_own T.hdC hno rfl (by rw [look, hy])) (handed_of ry) ⟨v, H1, I1.tok _, ry, q⟩
end Vk
/-! xs.count(y) of flat items -/
namespace Vk
open PySem PySem.Spec PyProof.Rows L2
theorem cnt_flat {y : V} : ∀ {ys : List V} {us : List Value}, Vals ys us → ys.all flatV = true → us.countP (eqU y) = ys.countP (fun z => eqV z y)
  | _, _, .nil, _ => rfl
  | _, _, .cons r t, f => by
    have f2 := Bool.and_eq_true_iff.mp f
    rw [List.countP_cons, List.countP_cons, cnt_flat t f2.2, eqU_of r f2.1]
def rCntV (K : PySem.W.Frag) : V → List V → Hp → VK → Prop := fun x xs H Q => ∃ (p : Addr) (ys : List V) (y : V), x = .ref p ∧ xs = [y] ∧ SqL K H p ys ∧ flatV y = true ∧ ys.all flatV = true ∧ Q (.int (ys.countP (fun z => eqV z y) : Nat)) H
theorem mt_countV {X : Cx} : MtR X "list.count" (rCntV X.K) := by
  intro pins s σ H x xs v us Q I rx rxs h
  obtain ⟨p, ys, y, rfl, rfl, hs, fy, fys, q⟩ := h
  cases rx
  obtain ⟨u, rfl, ru⟩ := rxs.one
  obtain ⟨its, rv, ⟨⟨cls, dd, data, sl⟩, n, ho, hc, hdn, hd⟩, hlen⟩ := I.list hs
  simp only at hc hd
  subst hc hd
  refine call_meets PySem.F.slot_list_count ⟨_, ho, rfl⟩ PySem.F.entry_list_count (PySem.F.args_list_count_2 _ _)
    (SeqAt.list_countAt p its.toArray n dd sl u (eqU y)) ⟨ho, fun z hz => mem_eqAt ru fy rv fys z (by simpa using hz), ?_⟩
  refine ⟨.int (ys.countP (fun z => eqV z y) : Nat), H, I.tok _, ⟨s.toks, ?_⟩, q⟩
  show Value.int ((its.toArray.toList.countP (eqU y) : Nat) : Int) s.toks = _
  rw [show its.toArray.toList = its from rfl, cnt_flat rv fys]
end Vk
/-! raise X(e), X an own error whose __init__ keeps one field -/
namespace Vk
open PySem PySem.Spec PyProof.Rows L2
def spIni (C : Addr) (fld : Str) : Sp := fun vs H Q _ => ∃ (a : Addr) (v : V), vs = [.ref a, v] ∧ H a = some (exo a C none) ∧ ∀ dx, H dx = none → dx ≠ a → Q .non (upd (upd H dx (exd dx [(fld, v)])) a (exo a C (some dx)))
structure ErC (P : Program) (w : World) (K : PySem.W.Frag) (mg : Str → Option Value) (base : Heap) (x fld : Str) (C : Addr) : Prop where
  gC : mg x = some (.ref C)
  oex : OexC K C
  ini : ∃ (fI : Addr) (fd : FuncData), PySem.W.findIn K (.ref C) "__init__" = some (some (.ref fI)) ∧ PySem.W.typeIn K (.ref fI) = some (.type "function") ∧ Binds K fd ["self", fld] [] ∧ FnOk P w K mg base CX0 1 fI fd ["self", fld] (spIni C fld)
def tRaiseE (C : Addr) (fld : Str) (W : WX) (te : TE) : TS := fun _ σ H => tMkO C (spIni C fld) [] (tCons te tNil) σ H fun cls d H' => W cls d σ H'
theorem put_del {H : Hp} {a d : Addr} {o u v x : HO} (ha : H a = none) (hd : H d = none) (ne : d ≠ a) : Same H (upd (del (upd (upd (upd H a o) d u) a v) a) d x) := .of fun b y e => by
  have nb : b ≠ a := ne_of_none e ha
  rw [upd_ne (ne_of_none e hd), del_ne nb, upd_ne nb, upd_ne (ne_of_none e hd), upd_ne nb]
  exact e
section
variable {X : Cx} {x fld : Str} {C : Addr} {W : WX} {e : Expr} {te : TE} {p pos pos2 : Pos} {k : Nat}
theorem ps_raiseE (T : ErC X.prog X.w X.K X.mg X.base x fld C) (hc : X.calm = true) (hr : Room k X.A) (hk : 2 ≤ k) (tk : Takes X W) (he : PE X e te) (hg : Gl X x := by rfl) (hdb : (x == ("__debug__" : Str)) = false := by decide)
    (hs : starEach (e :: []) X.env = (false, eval e X.env) :: starEach [] X.env := by rfl) (hpl : (backTo pos (starEach [] X.env)).any (·.1) = false := by rfl) :
    PS X (.Raise (some (.Call (.Name x p) [e] [] pos)) none pos2) (tRaiseE C fld W te) := by
  obtain ⟨fI, fd, h1, h2, h3, h4⟩ := T.ini
  have big := ps_raise (pos := pos2) hc tk (pmk_oex (p := p) (pos := pos) (CX := CX0) (k := 1) T.oex h1 h2 h4 (hr.mono hk) h3 .nil pass0 hg T.gC (pa_cons he pa_nil hs) hdb hs hpl)
  exact big
end
theorem raise_go {C : Addr} {fld : Str} {v : V} {H1 : Hp} {R : XK} {E : XK} (h : ∀ (d : Addr) (H2 : Hp), Same H1 H2 → H1 d = none → H2 d = some (.xd [(fld, v)]) → R (.ref C) (some d) H2) :
    [v].length ≤ 1000 ∧ ∀ a, H1 a = none → spIni C fld (.ref a :: ([v] ++ [])) (upd H1 a (exo a C none)) (fun u H2 => u = .non ∧ ∃ (d : Addr) (fs : List (Str × V)), H2 a = some (exo a C (some d)) ∧ H2 d = some (exd d fs) ∧ H1 d = none ∧ R (.ref C) (some d) (upd (del H2 a) d (.xd fs))) E := by
  refine ⟨by simp, fun a na => ⟨a, v, rfl, upd_same, fun dx nx ne => ?_⟩⟩
  have n1 : H1 dx = none := by
    rw [upd_ne ne] at nx
    exact nx
  refine ⟨rfl, dx, [(fld, v)], upd_same, by rw [upd_ne ne, upd_same], n1, h dx _ (put_del na n1 ne) n1 upd_same⟩
/-! ### the __init__ -/
structure Nit (K : PySem.W.Frag) (x qual fld : Str) (st : Stmt) (C : Addr) : Prop where
  ex : ∃ (fI : Addr) (fd : FuncData), PySem.W.findIn K (.ref C) "__init__" = some (some (.ref fI)) ∧ PySem.W.typeIn K (.ref fI) = some (.type "function") ∧ Fun K "__init__" qual st fI fd ∧ Binds K fd ["self", fld] []
end Vk
namespace Vk
open PySem PySem.Spec PyProof.Rows L2
section
variable {P : Program} {w : World} {K : PySem.W.Frag} {mg : Str → Option Value} {base : Heap}
theorem scInteger : FnScope ["value", "least"] ["value", "least"] (defScope sInteger) := ⟨rfl, rfl, rfl, by decide +kernel, rfl, by decide +kernel, by decide +kernel⟩
theorem ok_integer (D : Df K mg "is_integer" sInteger ["value", "least"]) (B : Blt mg) : Cl P w K mg base CX0 1 "is_integer" ["value", "least"] (spInteger K) := by
  refine cl0 D scInteger (fun vs H Q E h => ?_) (fun f cdv A outer s H vs Q E hr h => ?_)
  · obtain ⟨v, d, least, rfl, _⟩ := h
    rfl
  · obtain ⟨v, d, least, rfl, hd, k⟩ := h
    refine ⟨_, pss_one (ps_ret (pe_and (pe_callB call_isi (by rfl) B.isi (by decide +kernel) (pa_cons (pv 0) (pa_cons (pe_bltn (v := .ty "int") (u := .type "int") (by rfl) B.int (by decide +kernel) rfl) pa_nil))) (pe_and (pe_not (pe_callB call_isi (by rfl) B.isi (by decide +kernel) (pa_cons (pv 0) (pa_cons (pe_bltn (v := .ty "bool") (u := .type "bool") (by rfl) B.bool (by decide +kernel) rfl) pa_nil)))) (pe_one (pe_cmpR op_ge (pv 0) (pv 1) (nomark _)))))), ?_⟩
    refine ⟨_, rfl, v, _, _, _, _, rfl, .ty "int", dp_ty hd, kit_int hd, _, rfl, ?_⟩
    cases hd with
    | int i =>
      refine iteT ⟨_, rfl, _, _, _, _, _, rfl, .ty "bool", dp_ty (.int i), kit_bool (H := H) (.int i), _, rfl, _, rfl, iteT ?_⟩
      exact ⟨_, rfl, _, rfl, _, _, rfl, rfl, k⟩
    | bl b => exact iteT ⟨_, rfl, _, _, _, _, _, rfl, .ty "bool", dp_ty (.bl b), kit_bool (H := H) (.bl b), _, rfl, _, rfl, iteF k⟩
    | non => exact iteF k
    | str x => exact iteF k
    | lst q r => exact iteF k
    | tup q r => exact iteF k
theorem scInt : FnScope ["value", "least"] ["value", "least"] (defScope sInt) := ⟨rfl, rfl, rfl, by decide +kernel, rfl, by decide +kernel, by decide +kernel⟩
theorem ok_int (D : Df K mg "_law_is_int" sInt ["value", "least"]) (B : Blt mg) : Cl P w K mg base CX0 1 "_law_is_int" ["value", "least"] (spInteger K) := by
  refine cl0 D scInt (fun vs H Q E h => ?_) (fun f cdv A outer s H vs Q E hr h => ?_)
  · obtain ⟨v, d, least, rfl, _⟩ := h
    rfl
  · obtain ⟨v, d, least, rfl, hd, k⟩ := h
    refine ⟨_, pss_one (ps_ret (pe_and (pe_callB call_isi (by rfl) B.isi (by decide +kernel) (pa_cons (pv 0) (pa_cons (pe_bltn (v := .ty "int") (u := .type "int") (by rfl) B.int (by decide +kernel) rfl) pa_nil))) (pe_and (pe_not (pe_callB call_isi (by rfl) B.isi (by decide +kernel) (pa_cons (pv 0) (pa_cons (pe_bltn (v := .ty "bool") (u := .type "bool") (by rfl) B.bool (by decide +kernel) rfl) pa_nil)))) (pe_one (pe_cmpR op_ge (pv 0) (pv 1) (nomark _)))))), ?_⟩
    refine ⟨_, rfl, v, _, _, _, _, rfl, .ty "int", dp_ty hd, kit_int hd, _, rfl, ?_⟩
    cases hd with
    | int i =>
      refine iteT ⟨_, rfl, _, _, _, _, _, rfl, .ty "bool", dp_ty (.int i), kit_bool (H := H) (.int i), _, rfl, _, rfl, iteT ?_⟩
      exact ⟨_, rfl, _, rfl, _, _, rfl, rfl, k⟩
    | bl b => exact iteT ⟨_, rfl, _, _, _, _, _, rfl, .ty "bool", dp_ty (.bl b), kit_bool (H := H) (.bl b), _, rfl, _, rfl, iteF k⟩
    | non => exact iteF k
    | str x => exact iteF k
    | lst q r => exact iteF k
    | tup q r => exact iteF k
end
end Vk
/-! data beside the store: new tuples, lists, sums, slices -/
namespace Vk
open PySem PySem.Spec PyProof.Rows L2
theorem off_at {a p : Addr} {H : Hp} {o : HO} (h : H p = some o) (n : p ≠ a) : Off a H p = some o := by
  rw [off_ne n]
  exact h
theorem Kept.at {a p : Addr} {H H' : Hp} {o : HO} (k : Kept a H H') (h : H p = some o) (n : p ≠ a) (u : NoTbl o := by exact True.intro) : H' p = some o := (off_some (Same.at_ k _ _ (off_at h n) u)).2
theorem off_other {a p : Addr} {H : Hp} {o : HO} (h : p ≠ a) : Off a (upd H p o) = upd (Off a H) p o := by
  funext b
  by_cases h1 : b = a
  · subst h1
    rw [off_same, upd_ne h.symm, off_same]
  · rw [off_ne h1]
    by_cases h2 : b = p
    · subst h2
      rw [upd_same, upd_same]
    · rw [upd_ne h2, upd_ne h2, off_ne h1]
section
variable {K : PySem.W.Frag} {a p : Addr} {G : Hp} {vs : List V} {ds : List PyData} {o : HO}
theorem new_tup (hA : G a ≠ none) (np : G p = none) (h : DpAll K (Off a G) vs ds) : Dp K (Off a (upd G p (.tup vs))) (.ref p) (.tuple ds) := by
  have pa : p ≠ a := ne_has hA np
  exact .tup (SqT.of (by rw [off_ne pa, upd_same])) (dps_same (off_mono (same_new np)) h)
theorem new_lst (hA : G a ≠ none) (np : G p = none) (h : DpAll K (Off a G) vs ds) : Dp K (Off a (upd G p (.lst vs))) (.ref p) (.list ds) := by
  have pa : p ≠ a := ne_has hA np
  exact .lst (SqL.of (by rw [off_ne pa, upd_same])) (dps_same (off_mono (same_new np)) h)
theorem dp_up {H H' : Hp} {v : V} {d : PyData} (s : Same H H') (h : Dp K (Off a H) v d) : Dp K (Off a H') v d := dp_same (off_mono s) h
theorem dps_up {H H' : Hp} {v : List V} {d : List PyData} (s : Same H H') (h : DpAll K (Off a H) v d) : DpAll K (Off a H') v d := dps_same (off_mono s) h
theorem dp_on {H : Hp} {v : V} {d : PyData} (h : Dp K (Off a H) v d) : Dp K H v d := dp_same (off_sub a H) h
theorem atI_mem {xs : List V} {r : Int} (h0 : 0 ≤ r) (h1 : r < xs.length) : ∃ x, atI xs r = some x ∧ x ∈ xs := by
  have hj : r.toNat < xs.length := by omega
  have z := atI_nat (List.getElem?_eq_getElem hj)
  rw [Int.toNat_of_nonneg h0] at z
  exact ⟨_, z, List.getElem_mem hj⟩
theorem atI_dp {H : Hp} {xs : List V} {es : List PyData} {r : Int} (d : DpAll K H xs es) (h0 : 0 ≤ r) (h1 : r < es.length) : ∃ x e, atI xs r = some x ∧ es[r.toNat]? = some e ∧ Dp K H x e := by
  have hl := dps_len d
  have hj : r.toNat < es.length := by omega
  obtain ⟨x, hx, dx⟩ := dps_get d (List.getElem?_eq_getElem hj)
  have z := atI_nat hx
  rw [Int.toNat_of_nonneg h0] at z
  exact ⟨x, _, z, List.getElem?_eq_getElem hj, dx⟩
theorem cat_go {H : Hp} {x y : V} {ds es : List PyData} {Q : VK} (hA : H a ≠ none) (hx : Dp K (Off a H) x (.tuple ds)) (hy : Dp K (Off a H) y (.tuple es)) (hl : ds.length + es.length ≤ 1000)
    (k : ∀ z H', Same H H' → Dp K (Off a H') z (.tuple (ds ++ es)) → Q z H') : rCatA K x y H Q := by
  obtain ⟨p, xs, rfl, qx, rx⟩ := dp_tuple hx
  obtain ⟨q, ys, rfl, qy, ry⟩ := dp_tuple hy
  have l1 := dps_len rx
  have l2 := dps_len ry
  refine ⟨p, q, xs, ys, rfl, rfl, same_seqT (off_sub a H) qx, same_seqT (off_sub a H) qy, Nat.le_trans (show xs.length + ys.length ≤ 1000 by omega) (by decide), fun e => ?_, fun _ e => ?_, fun _ _ t nt => ?_⟩
  · subst e
    have e2 : ds = [] := List.eq_nil_of_length_eq_zero l1.symm
    subst e2
    exact k _ H (Same.refl H) hy
  · subst e
    have e2 : es = [] := List.eq_nil_of_length_eq_zero l2.symm
    subst e2
    rw [List.append_nil] at k
    exact k _ H (Same.refl H) hx
  · exact k _ _ (same_new nt) (new_tup hA nt (dps_app rx ry))
theorem slice_go {H : Hp} {x : V} {ds : List PyData} {lo hi : Option Int} {Q : VK} (hA : H a ≠ none) (hx : Dp K (Off a H) x (.tuple ds))
    (k : ∀ z H', Same H H' → Dp K (Off a H') z (.tuple ((ds.drop (HT.sIx ds.length 0 lo)).take (HT.sIx ds.length ds.length hi - HT.sIx ds.length 0 lo))) → Q z H') : rSlA K x lo hi H Q := by
  obtain ⟨p, xs, rfl, qx, rx⟩ := dp_tuple hx
  have l1 := dps_len rx
  refine ⟨p, xs, rfl, same_seqT (off_sub a H) qx, fun w => ?_, fun _ t nt => ?_⟩
  · rw [l1] at w
    have z := k (.ref p) H (Same.refl H)
    rw [w.1, w.2, List.drop_zero, Nat.sub_zero, List.take_length] at z
    exact z hx
  · refine k _ _ (same_new nt) (new_tup hA nt ?_)
    unfold cutV
    rw [l1]
    exact dps_take _ (dps_drop _ rx)
theorem dps_rep {H : Hp} {xs : List V} {es : List PyData} (d : DpAll K H xs es) : ∀ n : Nat, DpAll K H (List.replicate n xs).flatten (List.replicate n es).flatten
  | 0 => .nil
  | n + 1 => by
    rw [List.replicate_succ, List.replicate_succ, List.flatten_cons, List.flatten_cons]
    exact dps_app d (dps_rep d n)
end
end Vk
/-! xs == [], t != () -/
namespace Vk
open PySem PySem.Spec PyProof.Rows L2
def rEqNilL (K : PySem.W.Frag) : R2 := fun x y H Q => ∃ p q xs, x = .ref p ∧ y = .ref q ∧ SqL K H p xs ∧ SqL K H q [] ∧ Q (.bl xs.isEmpty) H
def rNeNilL (K : PySem.W.Frag) : R2 := fun x y H Q => ∃ p q xs, x = .ref p ∧ y = .ref q ∧ SqL K H p xs ∧ SqL K H q [] ∧ Q (.bl (!xs.isEmpty)) H
def rNeNilT (K : PySem.W.Frag) : R2 := fun x y H Q => ∃ p q xs, x = .ref p ∧ y = .ref q ∧ SqT K H p xs ∧ SqT K H q [] ∧ Q (.bl (!xs.isEmpty)) H
section
variable {X : Cx}
theorem op_eqNilL (hu : X.A.units < cLine) : OpR X (compareOp .Eq) (rEqNilL X.K) := by
  intro pins s σ H x y v u Q I rx ry h
  obtain ⟨p, q, xs, rfl, rfl, hp, hq, k⟩ := h
  cases rx
  cases ry
  obtain ⟨is1, r1, p1, _⟩ := I.list hp
  obtain ⟨is2, r2, p2, _⟩ := I.list hq
  cases r2
  have l1 := r1.length
  cases xs with
  | nil =>
    cases r1
    exact SeqAt.eq_listAt (e := fun _ => true) p1.isList p2.isList rfl hu (fun j h1 _ => absurd h1 (Nat.not_lt_zero _)) ⟨.bl true, H, I, rfl, k⟩
  | cons x r =>
    cases r1
    exact SeqAt.eq_list_lengthsAt p1.isList p2.isList (by simp) hu ⟨.bl false, H, I, rfl, k⟩
theorem op_neNilL (hu : X.A.units < cLine) : OpR X (compareOp .NotEq) (rNeNilL X.K) := by
  intro pins s σ H x y v u Q I rx ry h
  obtain ⟨p, q, xs, rfl, rfl, hp, hq, k⟩ := h
  cases rx
  cases ry
  obtain ⟨is1, r1, p1, _⟩ := I.list hp
  obtain ⟨is2, r2, p2, _⟩ := I.list hq
  cases r2
  have l1 := r1.length
  cases xs with
  | nil =>
    cases r1
    exact SeqAt.RcNeAt.lists (e := fun _ => true) p1.isList p2.isList rfl hu (fun j h1 _ => absurd h1 (Nat.not_lt_zero _)) _ _ _ _ ⟨.bl false, H, I, rfl, k⟩
  | cons x r =>
    cases r1
    exact SeqAt.RcNeAt.lists_lengths p1.isList p2.isList (by simp) hu _ _ _ _ ⟨.bl true, H, I, rfl, k⟩
theorem op_neNilT (hu : X.A.units < cLine) : OpR X (compareOp .NotEq) (rNeNilT X.K) := by
  intro pins s σ H x y v u Q I rx ry h
  obtain ⟨p, q, xs, rfl, rfl, hp, hq, k⟩ := h
  cases rx
  cases ry
  obtain ⟨is1, r1, p1, _⟩ := I.tuple hp
  obtain ⟨is2, r2, p2, _⟩ := I.tuple hq
  cases r2
  have l1 := r1.length
  have z : (!((List.range (min is1.toArray.size ([] : List Value).toArray.size)).all (fun _ => true) && is1.toArray.size == ([] : List Value).toArray.size)) = !xs.isEmpty := by
    cases xs with
    | nil =>
      cases r1
      rfl
    | cons x r =>
      cases r1
      simp
  refine SeqAt.RcNeAt.tuples (e := fun _ => true) p1 p2 hu (fun j _ h2 => absurd h2 (Nat.not_lt_zero _)) _ _ _ _ ?_
  rw [z]
  exact ⟨.bl (!xs.isEmpty), H, I, rfl, k⟩
end
end Vk
/-! all(lo <= c <= hi for c in text) -/
namespace Vk
open PySem PySem.Spec PyProof.Rows L2 GxR
def between (lo hi : Str) (c : Nat) : Bool := !decide ([c] < lo.cps.toList) && !decide (hi.cps.toList < [c])
theorem elt_between {prog : Program} {w : World} {scope : Scope} {x lo hi : Str} {j1 j2 : Nat} {p1 p2 p3 p4 : Pos} (hk : scope.kind = .function) (hl : scope.names.lookup x = some .local) (hd : (x == ("__debug__" : Str)) = false := by decide) :
    EltP prog w scope x (.Compare (.Constant (.str lo) j1 p1) [.LtE, .LtE] [.Name x p2, .Constant (.str hi) j2 p3] p4) (between lo hi) := by
  intro cenv A' E' c t s₂ m₂ hs hn hm
  refine Compare_chain ?_
  refine Calls.Constant_str (chain_link ?_)
  refine wpAny_Name (wpAny_loadName_local (by rw [hs]; exact hk) (show cenv.scope.names.lookup x = some .local by rw [hs]; exact hl) hn hm ?_) hd
  refine PySem.P.le_str (wpAny_truthy_bool ?_)
  have e1 : (⟨#[c]⟩ : Str).cps.toList = [c] := rfl
  cases h1 : decide ([c] < lo.cps.toList) with
  | true =>
    refine ite_ff ⟨?_, keeps_tok _ _⟩
    unfold between
    rw [h1]
    rfl
  | false =>
    refine ite_tt (chain_last (Calls.Constant_str (PySem.P.le_str ⟨?_, keeps_tok _ _⟩)))
    unfold between
    rw [h1]
    rfl
end Vk
namespace Vk
open PySem PySem.Spec PyProof.Rows L2 GxR
/-- a def whose code object stands at c -/
structure DfC (K : PySem.W.Frag) (mg : Str → Option Value) (x : Str) (st : Stmt) (ps : List Str) (c : Addr) : Prop where
  ex : ∃ (f : Addr) (oc : Value) (od : Option Addr) (kV doc pm : Value) (an : Option Addr) (ct : Value) (osl : Array (Option Value)), mg x = some (.ref f) ∧
    K.lookup f = some ⟨oc, od, .func (PySem.W.fnOf x x (defArgs st) (defBody st) (defScope st) .none kV doc pm an (.ref c) ct), osl⟩ ∧ PySem.W.codeIn K (.ref c) x = true ∧ PySem.W.keepIn K (.ref f) = true ∧
    Binds K (PySem.W.fnOf x x (defArgs st) (defBody st) (defScope st) .none kV doc pm an (.ref c) ct) ps []
theorem clC {P : Program} {w : World} {K : PySem.W.Frag} {mg : Str → Option Value} {base : Heap} {x : Str} {st : Stmt} {N ps : List Str} {k : Nat} {sp : Sp} {c : Addr} (D : DfC K mg x st ps c) (S : FnScope N ps (defScope st)) (len : ∀ vs H Q E, sp vs H Q E → vs.length = ps.length)
    (body : ∀ (f : Addr) (A : Around) (outer : List Env) (s : Shared) (H : Hp) (vs : List V) (Q : VK) (E : XK), Room k (A.deeper (envOfC x (defScope st) s.heap.objs.size f (.ref c))) → sp vs H Q E →
      ∃ t, PSs (cxOf CX0 P w K mg base N x (defScope st) f (.ref c) A outer s H E).nox (defBody st) t ∧ t { nx := fun _ H' => Q .non H', rt := Q } (start N vs) H) : Cl P w K mg base CX0 (k + 1) x ps sp := by
  obtain ⟨f, oc, od, kV, doc, pm, an, ct, osl, hm, lk, hcd, kp, b⟩ := D.ex
  refine ⟨f, _, hm, kp, b, fn_of lk hcd S len fun A outer s H vs Q E hr hsp => ?_⟩
  obtain ⟨t, h, q⟩ := body f A outer s H vs Q E hr hsp
  exact ⟨t, h.nox, q⟩
theorem twoLoc {R : Str × NameKind → Prop} {a b : Str} : ∀ y ∈ [(a, NameKind.local), (b, NameKind.local)], y.2 = .free → R y := by
  intro y hy e
  rcases List.mem_cons.mp hy with rfl | hy
  · cases e
  · rcases List.mem_cons.mp hy with rfl | hy
    · cases e
    · cases hy
theorem same_put {H Hc : Hp} {D : Addr} {o : HO} (s : Same H Hc) (n : H D = none) : Same H (upd Hc D o) := by
  have ne : ∀ {b : Addr} {u : HO}, H b = some u → b ≠ D := fun e => ne_of_none e n
  refine ⟨fun b u e nt => ?_, fun b e => ?_, fun P ⟨ps, e, t⟩ => ?_⟩
  · rw [upd_ne (ne e)]
    exact s.at_ b u e nt
  · by_cases z : b = D
    · rw [z] at e
      exact absurd n e
    · rw [upd_ne z]
      exact s.has b e
  · obtain ⟨qs, f, u⟩ := s.tab P ⟨ps, e, t⟩
    exact ⟨qs, by rw [upd_ne (ne e)]; exact f, u⟩
theorem find_at {n i : Nat} {p : Nat → Bool} (h : i < n) (hp : p i = true) (ok : ∀ j < i, p j = false) : (List.range n).find? p = some i := by
  rw [List.find?_range_eq_some]
  refine ⟨hp, List.mem_range.mpr h, fun j hj => ?_⟩
  rw [ok j hj]
  rfl
theorem find_no {n : Nat} {p : Nat → Bool} (ok : ∀ j < n, p j = false) : (List.range n).find? p = none := by
  rw [List.find?_eq_none]
  intro j hj
  rw [ok j (List.mem_range.mp hj)]
  exact Bool.false_ne_true
theorem inV_strs {n : Str} : ∀ ns : List Str, inV (.str n) (ns.map V.str) = ns.any (fun y => y == n)
  | [] => rfl
  | x :: ns => by
    have ih := inV_strs (n := n) ns
    show ((x == n) || inV (.str n) (ns.map V.str)) = ((x == n) || ns.any (fun y => y == n))
    rw [ih]
theorem flat_strs (ns : List Str) : (ns.map V.str).all flatV = true := by
  rw [List.all_eq_true]
  intro x hx
  obtain ⟨y, _, rfl⟩ := List.mem_map.mp hx
  rfl
theorem lt_one {a b : Nat} : ([a] < [b]) ↔ a < b := by
  constructor
  · intro h
    cases h with
    | rel h => exact h
    | cons h => cases h
  · intro h
    exact List.Lex.rel h
def optV : Option Int → V
  | some i => .int i
  | none => .non
theorem cutR {α : Type} {R : α} {F : α → Prop} {G : Prop} (h : F R → G) (c : F R) : G := h c
def sgn (c : Nat) : Str := ⟨#[c]⟩
theorem off_none {a : Addr} {H : Hp} (h : H a = none) : Off a H = H := by
  funext b
  by_cases e : b = a
  · rw [e, off_same, h]
  · rw [off_ne e]
theorem off_free {a D : Addr} {H : Hp} (h : H D = none) : Off a H D = none := by
  by_cases e : D = a
  · rw [e, off_same]
  · rw [off_ne e, h]
/-- what was built beside the store and a cell is built beside the store -/
theorem kept_of_off {a l : Addr} {H G : Hp} (h : H l = none) (k : Same (Off l (Off a H)) (Off l (Off a G))) : Kept a H G := by
  rw [off_none (off_free h)] at k
  exact k.trans (off_sub l _)
theorem kept_new_put {a D : Addr} {o : HO} {H G : Hp} (k : Kept a H G) (h : H D = none) (n : D ≠ a) : Kept a H (upd G D o) := by
  unfold Kept
  rw [off_other n]
  exact same_put k (off_free h)
theorem cps_app (x y : Str) : (x ++ y).cps.toList = x.cps.toList ++ y.cps.toList := by
  show (x.cps ++ y.cps).toList = _
  rw [Array.toList_append]
theorem cut_to {z : Str} {i : Nat} (h : i ≤ z.cps.toList.length) : (cutS z none (some (i : Int))).cps.toList = z.cps.toList.take i := by
  have e : HT.sIx z.length z.length (some (i : Int)) = i := by
    rw [HT.sIx_nat]
    have : z.length = z.cps.toList.length := by rw [Array.length_toList]; rfl
    omega
  show ((z.cps.toList.drop 0).take (HT.sIx z.length z.length (some (i : Int)) - 0)) = _
  rw [e]
  rfl
theorem cut_from {z : Str} {i : Nat} (h : i ≤ z.cps.toList.length) : (cutS z (some (i : Int)) none).cps.toList = z.cps.toList.drop i := by
  have e0 : z.length = z.cps.toList.length := by rw [Array.length_toList]; rfl
  have e : HT.sIx z.length 0 (some (i : Int)) = i := by
    rw [HT.sIx_nat]
    omega
  show ((z.cps.toList.drop (HT.sIx z.length 0 (some (i : Int)))).take (z.length - HT.sIx z.length 0 (some (i : Int)))) = _
  rw [e]
  exact List.take_of_length_le (by rw [List.length_drop]; omega)
theorem atI_three {x0 x1 x2 : V} {r : Int} (h0 : 0 ≤ r) (h4 : r < 3) : ∃ x, atI [x0, x1, x2] r = some x ∧ (x = x0 ∨ x = x1 ∨ x = x2) := by
  have z : r = 0 ∨ r = 1 ∨ r = 2 := by omega
  rcases z with rfl | rfl | rfl
  · exact ⟨_, rfl, .inl rfl⟩
  · exact ⟨_, rfl, .inr (.inl rfl)⟩
  · exact ⟨_, rfl, .inr (.inr rfl)⟩
theorem dps_set {K : PySem.W.Frag} {H : Hp} {v : V} {d : PyData} (hv : Dp K H v d) : ∀ {vs : List V} {ds : List PyData} (j : Nat), DpAll K H vs ds → DpAll K H (vs.set j v) (ds.set j d)
  | _, _, _, .nil => .nil
  | _, _, 0, .cons x r => .cons hv r
  | _, _, j + 1, .cons x r => .cons x (dps_set hv j r)
theorem ixN_nat {n j : Nat} (h : j < n) : ixN n ((0 : Int) + (j : Nat)) = some j := by
  rw [Int.zero_add]
  unfold ixN
  rw [if_pos (by omega), if_pos (by omega)]
  rfl
theorem slen {s : Str} : s.length = s.cps.toList.length := by rw [Array.length_toList]; rfl
theorem alen {x y : Str} : (x ++ y).length = x.length + y.length := by rw [slen, cps_app, List.length_append, ← slen, ← slen]
theorem log_ok {n : Nat} (h : n ≤ 10 ^ 30) : ((n : Int)).natAbs.log2 < 1920 := by
  rw [Int.natAbs_natCast]
  by_cases e : n = 0
  · subst e
    decide
  · exact (Nat.log2_lt e).mpr (Nat.lt_of_le_of_lt h (by decide))
theorem small_le {m : Nat} (h : m ≤ 200) : m ≤ sizeLine := Nat.le_trans h (by decide)
theorem dg_nat {t : Int} (h0 : 0 ≤ t) : ∃ n : Nat, t = (n : Int) := Int.eq_ofNat_of_zero_le h0
theorem cutP {R G : Prop} (h : R → G) (c : R) : G := h c
theorem atI_str {l : List Str} {r : Int} (h0 : 0 ≤ r) (h1 : r < l.length) : ∃ s, atI (l.map V.str) r = some (.str s) ∧ s ∈ l := by
  obtain ⟨x, h2, h3⟩ := atI_mem (xs := l.map V.str) h0 (by rw [List.length_map]; exact h1)
  obtain ⟨s, hs, rfl⟩ := List.mem_map.mp h3
  exact ⟨s, h2, hs⟩
theorem map_erase {α β : Type} (f : α → β) : ∀ (l : List α) (i : Nat), (l.map f).eraseIdx i = (l.eraseIdx i).map f
  | [], _ => rfl
  | x :: l, 0 => rfl
  | x :: l, i + 1 => by
    rw [List.map_cons, List.eraseIdx_cons_succ, List.eraseIdx_cons_succ, List.map_cons, map_erase f l i]
theorem cut_from_len (z : Str) (i : Nat) : (cutS z (some (i : Int)) none).length ≤ z.length - i := by
  have e0 : z.length = z.cps.toList.length := slen
  rw [slen]
  show ((z.cps.toList.drop (HT.sIx z.length 0 (some (i : Int)))).take (z.length - HT.sIx z.length 0 (some (i : Int)))).length ≤ _
  rw [HT.sIx_nat, List.length_take, List.length_drop]
  omega
theorem cut_to_len (z : Str) (i : Nat) : (cutS z none (some (i : Int))).length ≤ i := by
  have e0 : z.length = z.cps.toList.length := slen
  rw [slen]
  show ((z.cps.toList.drop 0).take (HT.sIx z.length z.length (some (i : Int)) - 0)).length ≤ _
  rw [HT.sIx_nat, List.length_take, List.length_drop]
  omega
theorem ixN_at {n : Nat} {i : Int} (h0 : 0 ≤ i) (h : i < n) : ixN n i = some i.toNat := by
  unfold ixN
  rw [if_pos h0, if_pos h]
theorem sq_at {n : Nat} {i : Int} (h0 : 0 ≤ i) (h : i < n) : seqIndex? i n = some i.toNat := by
  unfold seqIndex?
  simp
  omega
theorem cut1 {a : V} {l : List V} : cutV (a :: l) (some 1) none = l := by
  have e : HT.sIx (a :: l).length 0 (some 1) = 1 := by
    show HT.sIx (a :: l).length 0 (some ((1 : Nat) : Int)) = 1
    rw [HT.sIx_nat]
    simp only [List.length_cons]
    omega
  unfold cutV
  rw [e]
  show l.take ((a :: l).length - 1) = l
  exact List.take_of_length_le (by simp only [List.length_cons]; omega)
def optD : Option Int → PyData
  | some i => .int i
  | none => .none
theorem dp_opt {K : PySem.W.Frag} {H : Hp} : ∀ o : Option Int, Dp K H (optV o) (optD o)
  | some i => .int i
  | none => .non
theorem eq_strV (x s : Str) : decide (V.str x = V.str s) = decide (x = s) := by
  by_cases h : x = s
  · rw [h, decide_eq_true rfl, decide_eq_true rfl]
  · rw [decide_eq_false h, decide_eq_false (fun z => h (V.str.inj z))]
theorem units65 {k : Nat} {A : Around} (r : Room k A) : A.units + 65 < cLine := by have := r.un; omega
theorem find_some {n i : Nat} {p : Nat → Bool} (h : (List.range n).find? p = some i) : i < n ∧ p i = true ∧ ∀ j < i, p j = false := by
  rw [List.find?_range_eq_some] at h
  obtain ⟨h1, h2, h3⟩ := h
  refine ⟨List.mem_range.mp h2, h1, fun j hj => ?_⟩
  have z := h3 j hj
  cases hp : p j with
  | false => rfl
  | true =>
    rw [hp] at z
    cases z
theorem mem_joinL {s : Nat} {y : List Nat} : ∀ {ps : List (List Nat)}, s ∈ TL.joinL y ps → s ∈ y ∨ ∃ p ∈ ps, s ∈ p
  | [], h => by cases h
  | [p], h => .inr ⟨p, by simp, h⟩
  | p :: q :: r, h => by
    have z : s ∈ p ++ (y ++ TL.joinL y (q :: r)) := h
    rcases List.mem_append.mp z with z | z
    · exact .inr ⟨p, by simp, z⟩
    · rcases List.mem_append.mp z with z | z
      · exact .inl z
      · rcases mem_joinL z with z | ⟨p', hp', z⟩
        · exact .inl z
        · exact .inr ⟨p', List.mem_cons_of_mem _ hp', z⟩
theorem joinL_len {y : List Nat} {m : Nat} : ∀ {ps : List (List Nat)}, (∀ p ∈ ps, p.length ≤ m) → (TL.joinL y ps).length ≤ ps.length * (m + y.length)
  | [], _ => Nat.zero_le _
  | [p], h => by
    have := h p (by simp)
    show p.length ≤ 1 * (m + y.length)
    omega
  | p :: q :: r, h => by
    have h1 := h p (by simp)
    have h2 := joinL_len (y := y) (m := m) (ps := q :: r) fun x hx => h x (List.mem_cons_of_mem _ hx)
    show (p ++ (y ++ TL.joinL y (q :: r))).length ≤ _
    rw [List.length_append, List.length_append, List.length_cons, Nat.succ_mul]
    omega
def rEqNilT (K : PySem.W.Frag) : R2 := fun x y H Q => ∃ p q xs, x = .ref p ∧ y = .ref q ∧ SqT K H p xs ∧ SqT K H q [] ∧ Q (.bl xs.isEmpty) H
theorem op_eqNilT {X : Cx} (hu : X.A.units < cLine) : OpR X (compareOp .Eq) (rEqNilT X.K) := by
  intro pins s σ H x y v u Q I rx ry h
  obtain ⟨p, q, xs, rfl, rfl, hp, hq, k⟩ := h
  cases rx
  cases ry
  obtain ⟨is1, r1, p1, _⟩ := I.tuple hp
  obtain ⟨is2, r2, p2, _⟩ := I.tuple hq
  cases r2
  have z : ((List.range (min is1.toArray.size ([] : List Value).toArray.size)).all (fun _ => true) && is1.toArray.size == ([] : List Value).toArray.size) = xs.isEmpty := by
    cases xs with
    | nil =>
      cases r1
      rfl
    | cons x r =>
      cases r1
      simp
  refine SeqAt.eq_tupleAt (e := fun _ => true) p1 p2 hu (fun j _ h2 => absurd h2 (Nat.not_lt_zero _)) ?_
  rw [z]
  exact ⟨.bl xs.isEmpty, H, I, rfl, k⟩
end Vk
namespace Vk
open PySem PySem.Spec PyProof.Rows L2 GxR
def intsD (xs : List Int) : List PyData := xs.map PyData.int
/-- the place of the first entry that is wrong -/
def badOrd (n : Int) : List Int → Nat → List PyData → Option Nat
  | _, _, [] => none
  | pre, i, .int v :: r => if 0 ≤ v ∧ v < n ∧ v ∉ pre then badOrd n (pre ++ [v]) (i + 1) r else some i
  | _, i, _ :: _ => some i
def orderPlace : PyData → Option Int
  | .tuple ds => match badOrd ds.length [] 0 ds with
    | some i => some (i : Int)
    | none => none
  | _ => some 0
def lenT : PyData → Nat
  | .tuple ds => ds.length
  | _ => 0
structure IsOrd (os : List Int) : Prop where
  rng : ∀ v ∈ os, 0 ≤ v ∧ v < (os.length : Int)
  nd : os.Nodup
theorem bad_none : ∀ {ds : List PyData} {n : Int} {pre : List Int} {i : Nat}, badOrd n pre i ds = none → ∃ os : List Int, ds = intsD os ∧ (∀ v ∈ os, 0 ≤ v ∧ v < n ∧ v ∉ pre) ∧ os.Nodup
  | [], _, _, _, _ => ⟨[], rfl, fun _ h => absurd h (by simp), List.nodup_nil⟩
  | d :: r, n, pre, i, h => by
    cases d with
    | int v =>
      replace h : (if 0 ≤ v ∧ v < n ∧ v ∉ pre then badOrd n (pre ++ [v]) (i + 1) r else some i) = none := h
      split at h
      · rename_i hv
        obtain ⟨os, rfl, h1, h2⟩ := bad_none h
        refine ⟨v :: os, rfl, fun u hu => ?_, List.nodup_cons.mpr ⟨fun hu => ?_, h2⟩⟩
        · rcases List.mem_cons.mp hu with rfl | hu
          · exact hv
          · obtain ⟨a, b, c⟩ := h1 u hu
            exact ⟨a, b, fun z => c (by simp [z])⟩
        · exact (h1 v hu).2.2 (by simp)
      · cases h
    | none => cases h
    | bool _ => cases h
    | str _ => cases h
    | list _ => cases h
    | tuple _ => cases h
    | dict _ => cases h
theorem bad_ints : ∀ {os : List Int} {n : Int} {pre : List Int} {i : Nat}, (∀ v ∈ os, 0 ≤ v ∧ v < n ∧ v ∉ pre) → os.Nodup → badOrd n pre i (intsD os) = none
  | [], _, _, _, _, _ => rfl
  | v :: r, n, pre, i, h, nd => by
    show (if 0 ≤ v ∧ v < n ∧ v ∉ pre then badOrd n (pre ++ [v]) (i + 1) (intsD r) else some i) = none
    obtain ⟨n1, n2⟩ := List.nodup_cons.mp nd
    rw [if_pos (h v (by simp))]
    refine bad_ints (fun u hu => ?_) n2
    obtain ⟨a, b, c⟩ := h u (List.mem_cons_of_mem _ hu)
    refine ⟨a, b, fun z => ?_⟩
    rcases List.mem_append.mp z with z | z
    · exact c z
    · rw [List.mem_singleton.mp z] at hu
      exact n1 hu
theorem order_of {d : PyData} (h : orderPlace d = none) : ∃ os, d = .tuple (intsD os) ∧ IsOrd os := by
  cases d with
  | tuple ds =>
    have h1 : badOrd ds.length [] 0 ds = none := by
      unfold orderPlace at h
      cases e : badOrd (ds.length : Nat) [] 0 ds with
      | none => rfl
      | some i =>
        dsimp only at h
        rw [e] at h
        cases h
    obtain ⟨os, rfl, a, b⟩ := bad_none h1
    have l : (intsD os).length = os.length := List.length_map ..
    rw [l] at a
    exact ⟨os, rfl, fun v hv => ⟨(a v hv).1, (a v hv).2.1⟩, b⟩
  | none => cases h
  | bool _ => cases h
  | int _ => cases h
  | str _ => cases h
  | list _ => cases h
  | dict _ => cases h
theorem order_none {os : List Int} (h : IsOrd os) : orderPlace (.tuple (intsD os)) = none := by
  have l : (intsD os).length = os.length := List.length_map ..
  show (match badOrd (intsD os).length [] 0 (intsD os) with | some i => some (i : Int) | none => none) = none
  rw [bad_ints (fun v hv => ⟨(h.rng v hv).1, by rw [l]; exact (h.rng v hv).2, by simp⟩) h.nd]
/-! ### as many different ones as there can be -/
theorem len_sub : ∀ {xs ys : List Int}, xs.Nodup → (∀ x ∈ xs, x ∈ ys) → xs.length ≤ ys.length
  | [], ys, _, _ => Nat.zero_le _
  | x :: r, ys, nd, h => by
    obtain ⟨n1, n2⟩ := List.nodup_cons.mp nd
    have z := len_sub (xs := r) (ys := ys.erase x) n2 (fun u hu => by
      refine (List.mem_erase_of_ne (fun e => ?_)).mpr (h u (List.mem_cons_of_mem _ hu))
      rw [e] at hu
      exact n1 hu)
    rw [List.length_erase_of_mem (h x (by simp))] at z
    have p := List.length_pos_of_mem (h x (by simp))
    rw [List.length_cons]
    omega
theorem IsOrd.all {os : List Int} (h : IsOrd os) {v : Int} (h0 : 0 ≤ v) (h1 : v < (os.length : Int)) : v ∈ os := by
  refine Classical.byContradiction fun no => ?_
  have z := len_sub (xs := v :: os) (ys := (List.range os.length).map fun (i : Nat) => (i : Int)) (List.nodup_cons.mpr ⟨no, h.nd⟩) (fun u hu => by
    have r : 0 ≤ u ∧ u < (os.length : Int) := by
      rcases List.mem_cons.mp hu with rfl | hu
      · exact ⟨h0, h1⟩
      · exact h.rng u hu
    exact List.mem_map.mpr ⟨u.toNat, List.mem_range.mpr (by omega), by omega⟩)
  rw [List.length_cons, List.length_map, List.length_range] at z
  omega
/-! ### lengths and their order -/
def lv (ls : List Int) (v : Int) : Int := ls.getD v.toNat 0
def ov (os : List Int) (i : Nat) : Int := os.getD i 0
def lnk (ls : List Int) (a b : Int) : Prop := lv ls a < lv ls b ∨ (lv ls a = lv ls b ∧ a < b)
def Chn (ls os : List Int) (k : Nat) : Prop := ∀ i, i + 1 < k → lnk ls (ov os i) (ov os (i + 1))
theorem lnk_trans {ls : List Int} {a b c : Int} (h : lnk ls a b) (g : lnk ls b c) : lnk ls a c := by
  unfold lnk at *
  omega
theorem lnk_irr {ls : List Int} {a b : Int} (h : lnk ls a b) (g : lnk ls b a) : False := by
  unfold lnk at *
  omega
theorem ov_get {os : List Int} {i : Nat} (h : i < os.length) : os[i]? = some (ov os i) := by
  unfold ov
  rw [List.getD_eq_getElem?_getD, List.getElem?_eq_getElem h]
  rfl
theorem ov_mem {os : List Int} {i : Nat} (h : i < os.length) : ov os i ∈ os := List.mem_of_getElem? (ov_get h)
theorem ov_inj {os : List Int} (h : os.Nodup) {i j : Nat} (hi : i < os.length) (hj : j < os.length) (e : ov os i = ov os j) : i = j := by
  have a := ov_get hi
  have b := ov_get hj
  rw [← e] at b
  exact (List.getElem?_inj hi h).mp (a.trans b.symm)
theorem chn_all {ls os : List Int} {k : Nat} (c : Chn ls os k) {i j : Nat} (h : i < j) (hj : j < k) : lnk ls (ov os i) (ov os j) := by
  induction j with
  | zero => omega
  | succ j ih =>
    by_cases e : i = j
    · rw [e]
      exact c j hj
    · exact lnk_trans (ih (by omega) (by omega)) (c j hj)
/-- an order of these lengths is the only one -/
theorem ord_uniq {ls os us : List Int} (h : IsOrd os) (g : IsOrd us) (e : os.length = us.length) (c : Chn ls os os.length) (d : Chn ls us us.length) : os = us := by
  have key : ∀ k, k ≤ os.length → ∀ i, i < k → ov os i = ov us i := by
    intro k
    induction k with
    | zero => intro _ i hi; omega
    | succ k ih =>
      intro hk i hi
      have ih := ih (by omega)
      by_cases z : i < k
      · exact ih i z
      have ei : i = k := by omega
      subst ei
      refine Classical.byContradiction fun ne => ?_
      have m1 : ov us i ∈ os := h.all (g.rng _ (ov_mem (by omega))).1 (by rw [e]; exact (g.rng _ (ov_mem (by omega))).2)
      have m2 : ov os i ∈ us := g.all (h.rng _ (ov_mem (by omega))).1 (by rw [← e]; exact (h.rng _ (ov_mem (by omega))).2)
      obtain ⟨a, ha, ea⟩ := List.mem_iff_getElem.mp m1
      obtain ⟨b, hb, eb⟩ := List.mem_iff_getElem.mp m2
      have ea' : ov os a = ov us i := by
        have := ov_get ha
        rw [List.getElem?_eq_getElem ha, ea] at this
        exact (Option.some.inj this).symm
      have eb' : ov us b = ov os i := by
        have := ov_get hb
        rw [List.getElem?_eq_getElem hb, eb] at this
        exact (Option.some.inj this).symm
      have a1 : i < a := by
        refine Nat.lt_of_not_le fun le => ?_
        by_cases q : a = i
        · subst q
          exact ne ea'
        · have z1 := ih a (by omega)
          have z2 := ov_inj g.nd (i := a) (j := i) (by omega) (by omega) (z1.symm.trans ea')
          omega
      have b1 : i < b := by
        refine Nat.lt_of_not_le fun le => ?_
        by_cases q : b = i
        · subst q
          exact ne eb'.symm
        · have z1 := ih b (by omega)
          have z2 := ov_inj h.nd (i := b) (j := i) (by omega) (by omega) (z1.trans eb')
          omega
      have l1 := chn_all c a1 ha
      have l2 := chn_all d b1 hb
      rw [ea'] at l1
      rw [eb'] at l2
      exact lnk_irr l1 l2
  refine List.ext_getElem? fun i => ?_
  by_cases z : i < os.length
  · rw [ov_get z, ov_get (by omega), key os.length (Nat.le_refl _) i z]
  · rw [List.getElem?_eq_none (by omega), List.getElem?_eq_none (by omega)]
/-- the least length at a place of the order -/
def st (os : List Int) : Nat → Int
  | 0 => 1
  | i + 1 => if ov os (i + 1) < ov os i then st os i + 1 else st os i
theorem st_pos (os : List Int) : ∀ i, 1 ≤ st os i
  | 0 => Int.le_refl _
  | i + 1 => by
    have z := st_pos os i
    show 1 ≤ if ov os (i + 1) < ov os i then st os i + 1 else st os i
    split <;> omega
def Lst (ls os : List Int) : Prop := ls.length = os.length ∧ ∀ j, j < os.length → lv ls (ov os j) = st os j
theorem lst_chn {ls os : List Int} (h : IsOrd os) (l : Lst ls os) : Chn ls os os.length := by
  intro i hi
  unfold lnk
  rw [l.2 i (by omega), l.2 (i + 1) hi]
  show st os i < (if ov os (i + 1) < ov os i then st os i + 1 else st os i) ∨ _
  by_cases z : ov os (i + 1) < ov os i
  · rw [if_pos z]
    exact .inl (by omega)
  · refine .inr ⟨?_, ?_⟩
    · show _ = (if ov os (i + 1) < ov os i then st os i + 1 else st os i)
      rw [if_neg z]
    · have ne : ov os i ≠ ov os (i + 1) := fun e => by
        have := ov_inj h.nd (by omega) hi e
        omega
      omega
theorem at_ord {ls os : List Int} (h : IsOrd os) (e : ls.length = os.length) {i : Nat} (hi : i < ls.length) : ∃ j, j < os.length ∧ ov os j = (i : Int) := by
  obtain ⟨j, hj, ej⟩ := List.mem_iff_getElem.mp (h.all (v := (i : Int)) (by omega) (by omega))
  refine ⟨j, hj, ?_⟩
  have := ov_get hj
  rw [List.getElem?_eq_getElem hj, ej] at this
  exact (Option.some.inj this).symm
theorem lst_pos {ls os : List Int} (h : IsOrd os) (l : Lst ls os) : ∀ v ∈ ls, 1 ≤ v := by
  intro v hv
  obtain ⟨i, hi, e⟩ := List.mem_iff_getElem.mp hv
  obtain ⟨j, hj, ej⟩ := at_ord h l.1 hi
  have z := l.2 j hj
  rw [ej] at z
  have e2 : lv ls (i : Int) = v := by
    unfold lv
    rw [Int.toNat_natCast, List.getD_eq_getElem?_getD, List.getElem?_eq_getElem hi, e]
    rfl
  rw [← e2, z]
  exact st_pos os j
/-- no lengths of the order are less -/
theorem lst_min {os ms : List Int} (h : IsOrd os) (e : ms.length = os.length) (p : ∀ v ∈ ms, 1 ≤ v) (c : Chn ms os os.length) : ∀ j, j < os.length → st os j ≤ lv ms (ov os j)
  | 0, hj => by
    have r := h.rng _ (ov_mem hj)
    refine p _ ?_
    have hk : (ov os 0).toNat < ms.length := by omega
    unfold lv
    rw [List.getD_eq_getElem?_getD, List.getElem?_eq_getElem hk]
    exact List.getElem_mem hk
  | j + 1, hj => by
    have z := lst_min h e p c j (by omega)
    have k := c j hj
    show (if ov os (j + 1) < ov os j then st os j + 1 else st os j) ≤ _
    unfold lnk at k
    split <;> omega
theorem lst_le {ls os ms : List Int} (h : IsOrd os) (l : Lst ls os) (e : ms.length = os.length) (p : ∀ v ∈ ms, 1 ≤ v) (c : Chn ms os os.length) {i : Nat} (hi : i < ls.length) : lv ls (i : Int) ≤ lv ms (i : Int) := by
  obtain ⟨j, hj, ej⟩ := at_ord h l.1 hi
  have z := lst_min h e p c j hj
  have z2 := l.2 j hj
  rw [ej] at z z2
  omega
theorem lv_set {ls : List Int} {i : Nat} {x v : Int} (hi : i < ls.length) (h0 : 0 ≤ v) : lv (ls.set i x) v = if v = (i : Int) then x else lv ls v := by
  unfold lv
  rw [List.getD_eq_getElem?_getD, List.getD_eq_getElem?_getD, List.getElem?_set]
  by_cases e : i = v.toNat
  · rw [if_pos e, if_pos hi, if_pos (by omega)]
    rfl
  · rw [if_neg e, if_neg (by omega)]
theorem eqvs_ints : ∀ {xs ys : List Int}, PyData.eqv (.tuple (intsD xs)) (.tuple (intsD ys)) = true → xs = ys
  | [], [], _ => rfl
  | [], y :: ys, h => by simp [intsD, PyData.eqv, PyData.eqvAll] at h
  | x :: xs, [], h => by simp [intsD, PyData.eqv, PyData.eqvAll] at h
  | x :: xs, y :: ys, h => by
    have h2 : x = y ∧ PyData.eqv (.tuple (intsD xs)) (.tuple (intsD ys)) = true := by
      simpa [intsD, PyData.eqv, PyData.eqvAll] using h
    rw [h2.1, eqvs_ints h2.2]
theorem shape_ints : ∀ xs : List Int, PyData.canLayAll0 (intsD xs) = true ∧ PyData.depthAll (intsD xs) ≤ 1
  | [] => by simp [intsD, PyData.canLayAll0, PyData.depthAll]
  | x :: r => by
    obtain ⟨a, b⟩ := shape_ints r
    unfold intsD at a b ⊢
    refine ⟨?_, ?_⟩
    · simp [PyData.canLayAll0, a, PyData.canLay0]
    · simp [PyData.depthAll, PyData.depth]
      omega
theorem shaped_ints (xs : List Int) : SeqAt.shaped (.tuple (intsD xs)) = true := by
  obtain ⟨a, b⟩ := shape_ints xs
  unfold SeqAt.shaped
  rw [show PyData.canLay0 (.tuple (intsD xs)) = true from by simp [PyData.canLay0, a], Bool.true_and]
  refine decide_eq_true ?_
  simp [PyData.depth]
  omega
theorem dps_ints {K : PySem.W.Frag} {H : Hp} : ∀ {xs : List Int}, DpAll K H (xs.map V.int) (intsD xs)
  | [] => .nil
  | _ :: _ => .cons (.int _) dps_ints
theorem ints_dps {K : PySem.W.Frag} {H : Hp} : ∀ {vs : List V} {xs : List Int}, DpAll K H vs (intsD xs) → vs = xs.map V.int
  | _, [], .nil => rfl
  | _, x :: r, .cons h t => by
    rw [dp_int h, ints_dps t]
    rfl
theorem ints_inj {xs ys : List Int} (h : intsD xs = intsD ys) : xs = ys := by
  unfold intsD at h
  exact (List.map_inj_right (fun a b e => PyData.int.inj e)).mp h
section
variable {K : PySem.W.Frag} {H : Hp}
theorem slice_go0 {x : V} {ds : List PyData} {lo hi : Option Int} {Q : VK} (hx : Dp K H x (.tuple ds))
    (k : ∀ z H', Same H H' → Dp K H' z (.tuple ((ds.drop (HT.sIx ds.length 0 lo)).take (HT.sIx ds.length ds.length hi - HT.sIx ds.length 0 lo))) → Q z H') : rSlA K x lo hi H Q := by
  obtain ⟨p, xs, rfl, qx, rx⟩ := dp_tuple hx
  have l1 := dps_len rx
  refine ⟨p, xs, rfl, qx, fun w => ?_, fun _ t nt => ?_⟩
  · rw [l1] at w
    have z := k (.ref p) H (Same.refl H)
    rw [w.1, w.2, List.drop_zero, Nat.sub_zero, List.take_length] at z
    exact z hx
  · refine k _ _ (same_new nt) (.tup (SqT.of upd_same) (dps_same (same_new nt) ?_))
    unfold cutV
    rw [l1]
    exact dps_take _ (dps_drop _ rx)
theorem cat_go0 {x y : V} {ds es : List PyData} {Q : VK} (hx : Dp K H x (.tuple ds)) (hy : Dp K H y (.tuple es)) (hl : ds.length + es.length ≤ 1000)
    (k : ∀ z H', Same H H' → Dp K H' z (.tuple (ds ++ es)) → Q z H') : rCatA K x y H Q := by
  obtain ⟨p, xs, rfl, qx, rx⟩ := dp_tuple hx
  obtain ⟨q, ys, rfl, qy, ry⟩ := dp_tuple hy
  have l1 := dps_len rx
  have l2 := dps_len ry
  refine ⟨p, q, xs, ys, rfl, rfl, qx, qy, Nat.le_trans (show xs.length + ys.length ≤ 1000 by omega) (by decide), fun e => ?_, fun _ e => ?_, fun _ _ t nt => ?_⟩
  · subst e
    have e2 : ds = [] := List.eq_nil_of_length_eq_zero l1.symm
    subst e2
    exact k _ H (Same.refl H) hy
  · subst e
    have e2 : es = [] := List.eq_nil_of_length_eq_zero l2.symm
    subst e2
    rw [List.append_nil] at k
    exact k _ H (Same.refl H) hx
  · exact k _ _ (same_new nt) (.tup (SqT.of upd_same) (dps_same (same_new nt) (dps_app rx ry)))
theorem nt0 {p : Addr} {G : Hp} {vs : List V} {ds : List PyData} (np : G p = none) (h : DpAll K G vs ds) : Dp K (upd G p (.tup vs)) (.ref p) (.tuple ds) := .tup (SqT.of upd_same) (dps_same (same_new np) h)
end
/-- the first ones of a slice -/
theorem sl_to {n i : Nat} (h : i ≤ n) : HT.sIx n n (some (i : Int)) = i := by rw [HT.sIx_nat]; omega
theorem sl_from {n i : Nat} (h : i ≤ n) : HT.sIx n 0 (some (i : Int)) = i := by rw [HT.sIx_nat]; omega
end Vk
namespace Vk
open PySem PySem.Spec PyProof.Rows L2
/-- the truth of the twelve questions, for the class with number i -/
def bits (i : Nat) : List V := (List.range 12).map fun j => V.bl (decide (j = i))
def words7 : List Str := ["jobs", "rule", "lengths", "log", "marks", "named", "order"]
theorem bits_len (i : Nat) : (bits i).length = 12 := by simp [bits]
theorem bits_get {i m : Nat} (h : m < 12) : (bits i)[m]? = some (V.bl (decide (m = i))) := by
  unfold bits
  rw [List.getElem?_map, List.getElem?_range h]
  rfl
theorem bits_flat (i : Nat) : (bits i).all flatV = true := by
  unfold bits
  rw [List.all_eq_true]
  intro x hx
  obtain ⟨j, _, rfl⟩ := List.mem_map.mp hx
  rfl
theorem bits_cnt : ∀ i : Fin 12, (bits i.1).countP (fun z => eqV z (.bl true)) = 1 := by decide +kernel
structure Kn (K : PySem.W.Frag) (mg : Str → Option Value) (C : Addr) (i : Nat) : Prop where
  ex : ExcC K C
  xf : XfC K C
  noP : PySem.W.findIn K (.ref C) "place" = some none
  ve : mg "ValueError" = none
  kv : PySem.W.kitOne K (.ref C) (.type "ValueError") = some true
  se : ∃ S, mg "SlotError" = some (.ref S) ∧ PySem.W.kitOne K (.ref C) (.ref S) = some true ∧ PySem.W.exmOne K (.ref C) (.ref S) = some true
  c0 : ∃ D, mg "NoJobs" = some (.ref D) ∧ PySem.W.kitOne K (.ref C) (.ref D) = some (decide (0 = i))
  c1 : ∃ D, mg "NoRule" = some (.ref D) ∧ PySem.W.kitOne K (.ref C) (.ref D) = some (decide (1 = i))
  c2 : ∃ D, mg "NoLengths" = some (.ref D) ∧ PySem.W.kitOne K (.ref C) (.ref D) = some (decide (2 = i))
  c3 : ∃ D, mg "NoLog" = some (.ref D) ∧ PySem.W.kitOne K (.ref C) (.ref D) = some (decide (3 = i))
  c4 : ∃ D, mg "NoMarks" = some (.ref D) ∧ PySem.W.kitOne K (.ref C) (.ref D) = some (decide (4 = i))
  c5 : ∃ D, mg "NoNamed" = some (.ref D) ∧ PySem.W.kitOne K (.ref C) (.ref D) = some (decide (5 = i))
  c6 : ∃ D, mg "NoOrder" = some (.ref D) ∧ PySem.W.kitOne K (.ref C) (.ref D) = some (decide (6 = i))
  c7 : ∃ D, mg "NoText" = some (.ref D) ∧ PySem.W.kitOne K (.ref C) (.ref D) = some (decide (7 = i))
  c8 : ∃ D, mg "NoNumber" = some (.ref D) ∧ PySem.W.kitOne K (.ref C) (.ref D) = some (decide (8 = i))
  c9 : ∃ D, mg "NoName" = some (.ref D) ∧ PySem.W.kitOne K (.ref C) (.ref D) = some (decide (9 = i))
  c10 : ∃ D, mg "NoUndo" = some (.ref D) ∧ PySem.W.kitOne K (.ref C) (.ref D) = some (decide (10 = i))
  c11 : ∃ D, mg "NoLine" = some (.ref D) ∧ PySem.W.kitOne K (.ref C) (.ref D) = some (decide (11 = i))
section
variable {P : Program} {w : World} {K : PySem.W.Frag} {mg : Str → Option Value} {base : Heap}
def spKind (C : Addr) (i : Nat) : Sp := fun vs H Q _ => ∃ (a dd : Addr) (v : V), vs = [.ref a] ∧ H a = some (Xco a (.ref C) (some dd)) ∧ H dd = some (.xd [(("place" : Str), v)]) ∧
  ∀ (t : Addr) (H' : Hp), Same H H' → H' t = some (.tup [.str (words7.getD i ""), v]) → Q (.ref t) H'
theorem scKind : FnScope ["caught", "kinds", "at"] ["caught"] (defScope sKind) := ⟨rfl, rfl, rfl, by decide +kernel, rfl, by decide +kernel, by decide +kernel⟩
theorem ok_kind {C : Addr} {i : Nat} (hi : i < 7) (D : Df K mg "_law_kind" sKind ["caught"]) (B : Blt mg) (N : Kn K mg C i) : Cl P w K mg base CX0 1 "_law_kind" ["caught"] (spKind C i) := by
  refine cl0 D scKind (fun vs H Q E h => ?_) (fun f cdv A outer s H vs Q E hr h => ?_)
  · obtain ⟨a, dd, v, rfl, _⟩ := h
    rfl
  · obtain ⟨a, dd, v, rfl, ha, hdd, k⟩ := h
    obtain ⟨S, mS, kS, _⟩ := N.se
    obtain ⟨D0, m0, k0⟩ := N.c0
    obtain ⟨D1, m1, k1⟩ := N.c1
    obtain ⟨D2, m2, k2⟩ := N.c2
    obtain ⟨D3, m3, k3⟩ := N.c3
    obtain ⟨D4, m4, k4⟩ := N.c4
    obtain ⟨D5, m5, k5⟩ := N.c5
    obtain ⟨D6, m6, k6⟩ := N.c6
    obtain ⟨D7, m7, k7⟩ := N.c7
    obtain ⟨D8, m8, k8⟩ := N.c8
    obtain ⟨D9, m9, k9⟩ := N.c9
    obtain ⟨D10, m10, k10⟩ := N.c10
    obtain ⟨D11, m11, k11⟩ := N.c11
    refine ⟨_, pss_cons (ps_set (i := 1) scKind.nd rfl (Or.inl rfl) (pe_lst (pa_cons (pe_callB call_isX (by rfl) B.isi (by decide +kernel) (pa_cons (pv 0) (pa_cons (pe_glob rfl m0 (show RelV (.ref _) _ from rfl)) pa_nil))) (pa_cons (pe_callB call_isX (by rfl) B.isi (by decide +kernel) (pa_cons (pv 0) (pa_cons (pe_glob rfl m1 (show RelV (.ref _) _ from rfl)) pa_nil))) (pa_cons (pe_callB call_isX (by rfl) B.isi (by decide +kernel) (pa_cons (pv 0) (pa_cons (pe_glob rfl m2 (show RelV (.ref _) _ from rfl)) pa_nil))) pa_nil)))))
      (pss_cons (ps_set (i := 1) scKind.nd rfl (Or.inl rfl) (pe_op op_cat (pv 1) (pe_lst (pa_cons (pe_callB call_isX (by rfl) B.isi (by decide +kernel) (pa_cons (pv 0) (pa_cons (pe_glob rfl m3 (show RelV (.ref _) _ from rfl)) pa_nil))) (pa_cons (pe_callB call_isX (by rfl) B.isi (by decide +kernel) (pa_cons (pv 0) (pa_cons (pe_glob rfl m4 (show RelV (.ref _) _ from rfl)) pa_nil))) (pa_cons (pe_callB call_isX (by rfl) B.isi (by decide +kernel) (pa_cons (pv 0) (pa_cons (pe_glob rfl m5 (show RelV (.ref _) _ from rfl)) pa_nil))) pa_nil))))))
      (pss_cons (ps_set (i := 1) scKind.nd rfl (Or.inl rfl) (pe_op op_cat (pv 1) (pe_lst (pa_cons (pe_callB call_isX (by rfl) B.isi (by decide +kernel) (pa_cons (pv 0) (pa_cons (pe_glob rfl m6 (show RelV (.ref _) _ from rfl)) pa_nil))) (pa_cons (pe_callB call_isX (by rfl) B.isi (by decide +kernel) (pa_cons (pv 0) (pa_cons (pe_glob rfl m7 (show RelV (.ref _) _ from rfl)) pa_nil))) (pa_cons (pe_callB call_isX (by rfl) B.isi (by decide +kernel) (pa_cons (pv 0) (pa_cons (pe_glob rfl m8 (show RelV (.ref _) _ from rfl)) pa_nil))) pa_nil))))))
      (pss_cons (ps_set (i := 1) scKind.nd rfl (Or.inl rfl) (pe_op op_cat (pv 1) (pe_lst (pa_cons (pe_callB call_isX (by rfl) B.isi (by decide +kernel) (pa_cons (pv 0) (pa_cons (pe_glob rfl m9 (show RelV (.ref _) _ from rfl)) pa_nil))) (pa_cons (pe_callB call_isX (by rfl) B.isi (by decide +kernel) (pa_cons (pv 0) (pa_cons (pe_glob rfl m10 (show RelV (.ref _) _ from rfl)) pa_nil))) (pa_cons (pe_callB call_isX (by rfl) B.isi (by decide +kernel) (pa_cons (pv 0) (pa_cons (pe_glob rfl m11 (show RelV (.ref _) _ from rfl)) pa_nil))) pa_nil))))))
      (pss_cons (ps_if (PW.pt (pw_or (pt_not (pt_val (pe_callB call_isX (by rfl) B.isi (by decide +kernel) (pa_cons (pv 0) (pa_cons (pe_glob rfl mS (show RelV (.ref _) _ from rfl)) pa_nil))))) (pw_or (pt_not (pt_val (pe_callB call_isX (by rfl) B.isi (by decide +kernel) (pa_cons (pv 0) (pa_cons (pe_bltn (v := .ty "ValueError") (u := .type "ValueError") (by rfl) N.ve (by decide +kernel) rfl) pa_nil)))))
        (pw_or1 (pt_cmpR op_ne (pe_bm PySem.F.plainAttrs_list PySem.F.slot_list_count PySem.F.type_list_count mt_countV (pv 1) (pa_cons pe_bl pa_nil)) pe_int (nomark _)))))) (pss_one (ps_ret (pe_tup (pa_cons pe_str (pa_cons pe_int pa_nil))))) pss_nil)
      (pss_cons (ps_set (i := 2) scKind.nd rfl (Or.inl rfl) (pe_bm PySem.F.plainAttrs_list PySem.F.slot_list_index PySem.F.type_list_index mt_index (pv 1) (pa_cons pe_bl pa_nil)))
      (pss_cons (ps_if (pt_cmpR op_lt (pv 2) pe_int (nomark _)) (pss_one (ps_ret (pe_tup (pa_cons (pe_ix ix_list (pe_lst (pa_cons pe_str (pa_cons pe_str (pa_cons pe_str (pa_cons pe_str (pa_cons pe_str (pa_cons pe_str (pa_cons pe_str pa_nil)))))))) (pv 2) (fun _ _ => rfl)) (pa_cons (pe_xp (pv 0)) pa_nil))))) pss_nil)
      (pss_cons ps_never (pss_cons ps_never (pss_cons ps_never (pss_one ps_never)))))))))), ?_⟩
    refine ⟨_, rfl, a, C, some dd, _, _, _, rfl, (Same.refl H).at ha, (fun d2 e2 => by cases e2; exact ⟨_, (Same.refl H).at hdd⟩), N.ex, .own _, k0,
      _, rfl, a, C, some dd, _, _, _, rfl, (Same.refl H).at ha, (fun d2 e2 => by cases e2; exact ⟨_, (Same.refl H).at hdd⟩), N.ex, .own _, k1,
      _, rfl, a, C, some dd, _, _, _, rfl, (Same.refl H).at ha, (fun d2 e2 => by cases e2; exact ⟨_, (Same.refl H).at hdd⟩), N.ex, .own _, k2, (by show 3 ≤ sizeLine; decide), fun p1 n1 => ?_⟩
    have s1 := same_new (o := .lst [.bl (decide (0 = i)), .bl (decide (1 = i)), .bl (decide (2 = i))]) n1
    refine ⟨_, rfl, _, rfl, a, C, some dd, _, _, _, rfl, s1.at ha, (fun d2 e2 => by cases e2; exact ⟨_, s1.at hdd⟩), N.ex, .own _, k3,
      _, rfl, a, C, some dd, _, _, _, rfl, s1.at ha, (fun d2 e2 => by cases e2; exact ⟨_, s1.at hdd⟩), N.ex, .own _, k4,
      _, rfl, a, C, some dd, _, _, _, rfl, s1.at ha, (fun d2 e2 => by cases e2; exact ⟨_, s1.at hdd⟩), N.ex, .own _, k5, (by show 3 ≤ sizeLine; decide), fun q1 m1' => ?_⟩
    have t1 := same_new (o := .lst [.bl (decide (3 = i)), .bl (decide (4 = i)), .bl (decide (5 = i))]) m1'
    refine ⟨p1, q1, _, _, rfl, rfl, t1.at upd_same, upd_same, (by show 3 + 3 ≤ sizeLine; decide), fun p2 n2 => ?_⟩
    have s2 := (s1.trans t1).trans (same_new (o := .lst ([.bl (decide (0 = i)), .bl (decide (1 = i)), .bl (decide (2 = i))] ++ [.bl (decide (3 = i)), .bl (decide (4 = i)), .bl (decide (5 = i))])) n2)
    refine ⟨_, rfl, _, rfl, a, C, some dd, _, _, _, rfl, s2.at ha, (fun d2 e2 => by cases e2; exact ⟨_, s2.at hdd⟩), N.ex, .own _, k6,
      _, rfl, a, C, some dd, _, _, _, rfl, s2.at ha, (fun d2 e2 => by cases e2; exact ⟨_, s2.at hdd⟩), N.ex, .own _, k7,
      _, rfl, a, C, some dd, _, _, _, rfl, s2.at ha, (fun d2 e2 => by cases e2; exact ⟨_, s2.at hdd⟩), N.ex, .own _, k8, (by show 3 ≤ sizeLine; decide), fun q2 m2' => ?_⟩
    have t2 := same_new (o := .lst [.bl (decide (6 = i)), .bl (decide (7 = i)), .bl (decide (8 = i))]) m2'
    refine ⟨p2, q2, _, _, rfl, rfl, t2.at upd_same, upd_same, (by show 6 + 3 ≤ sizeLine; decide), fun p3 n3 => ?_⟩
    have s3 := (s2.trans t2).trans (same_new (o := .lst (([.bl (decide (0 = i)), .bl (decide (1 = i)), .bl (decide (2 = i))] ++ [.bl (decide (3 = i)), .bl (decide (4 = i)), .bl (decide (5 = i))]) ++ [.bl (decide (6 = i)), .bl (decide (7 = i)), .bl (decide (8 = i))])) n3)
    refine ⟨_, rfl, _, rfl, a, C, some dd, _, _, _, rfl, s3.at ha, (fun d2 e2 => by cases e2; exact ⟨_, s3.at hdd⟩), N.ex, .own _, k9,
      _, rfl, a, C, some dd, _, _, _, rfl, s3.at ha, (fun d2 e2 => by cases e2; exact ⟨_, s3.at hdd⟩), N.ex, .own _, k10,
      _, rfl, a, C, some dd, _, _, _, rfl, s3.at ha, (fun d2 e2 => by cases e2; exact ⟨_, s3.at hdd⟩), N.ex, .own _, k11, (by show 3 ≤ sizeLine; decide), fun q3 m3' => ?_⟩
    have t3 := same_new (o := .lst [.bl (decide (9 = i)), .bl (decide (10 = i)), .bl (decide (11 = i))]) m3'
    refine ⟨p3, q3, _, _, rfl, rfl, t3.at upd_same, upd_same, (by show 9 + 3 ≤ sizeLine; decide), fun p4 n4 => ?_⟩
    have s4 := (s3.trans t3).trans (same_new (o := .lst ((([.bl (decide (0 = i)), .bl (decide (1 = i)), .bl (decide (2 = i))] ++ [.bl (decide (3 = i)), .bl (decide (4 = i)), .bl (decide (5 = i))]) ++ [.bl (decide (6 = i)), .bl (decide (7 = i)), .bl (decide (8 = i))]) ++ [.bl (decide (9 = i)), .bl (decide (10 = i)), .bl (decide (11 = i))])) n4)
    have e12 : ((([.bl (decide (0 = i)), .bl (decide (1 = i)), .bl (decide (2 = i))] ++ [.bl (decide (3 = i)), .bl (decide (4 = i)), .bl (decide (5 = i))]) ++ [.bl (decide (6 = i)), .bl (decide (7 = i)), .bl (decide (8 = i))]) ++ [.bl (decide (9 = i)), .bl (decide (10 = i)), .bl (decide (11 = i))]) = bits i := rfl
    refine ⟨_, rfl, a, C, some dd, _, _, _, rfl, s4.at ha, (fun d2 e2 => by cases e2; exact ⟨_, s4.at hdd⟩), N.ex, .own _, kS, _, rfl, iteF ?_⟩
    refine ⟨_, rfl, a, C, some dd, _, _, _, rfl, s4.at ha, (fun d2 e2 => by cases e2; exact ⟨_, s4.at hdd⟩), N.ex, .ty "ValueError", N.kv, _, rfl, iteF ?_⟩
    refine ⟨_, rfl, .inl ⟨rfl, _, SqL.of upd_same⟩, p4, _, _, rfl, rfl, SqL.of upd_same, rfl, ?_, ?_⟩
    · rw [e12]
      exact bits_flat i
    rw [e12]
    have ec : (bits i).countP (fun z => eqV z (.bl true)) = 1 := bits_cnt ⟨i, by omega⟩
    rw [ec]
    refine ⟨rfl, _, rfl, iteF ?_⟩
    refine ⟨_, rfl, .inl ⟨rfl, _, SqL.of upd_same⟩, p4, _, _, i, .bl (decide (i = i)), rfl, rfl, SqL.of upd_same, rfl, bits_flat i, bits_get (by omega), by rw [decide_eq_true rfl]; rfl, fun m z' hm hz => ?_, ?_⟩
    · rw [bits_get (by omega)] at hz
      cases hz
      rw [decide_eq_false (by omega)]
      rfl
    refine ⟨_, rfl, _, _, rfl, rfl, _, rfl, ?_⟩
    rw [decide_eq_true (show (i : Int) < 7 by omega)]
    refine iteT ⟨(by show 7 ≤ sizeLine; decide), fun l nl => ?_⟩
    have s5 := s4.trans (same_new (o := .lst (words7.map V.str)) nl)
    have ew : (words7.map V.str)[i]? = some (.str (words7.getD i "")) := by
      rw [List.getElem?_map, List.getD_eq_getElem?_getD]
      have hl : i < words7.length := hi
      rw [List.getElem?_eq_getElem hl]
      rfl
    refine ⟨_, rfl, l, _, _, _, rfl, rfl, SqL.of upd_same, atI_nat ew, _, rfl, a, C, dd, _, v, rfl, s5.at ha, s5.at hdd, by simp [List.lookup], N.xf, N.noP, (by show 2 ≤ sizeLine; decide), fun t nt => ?_⟩
    exact k t _ (s5.trans (same_new nt)) upd_same
end
end Vk
namespace Vk
open PySem PySem.Spec PyProof.Rows L2
theorem kit_same {K : PySem.W.Frag} {t : Value} : PySem.W.kitOne K t t = some true := by
  unfold PySem.W.kitOne
  rw [if_pos (beq_self_eq_true t)]
theorem kit_sub {K : PySem.W.Frag} {C D : Addr} (h1 : PySem.W.isClsIn K D = true) (h2 : PySem.W.typeIn K (.ref D) = some (.type "type")) (h3 : PySem.W.subIn K (.ref C) (.ref D) = some true) : PySem.W.kitOne K (.ref C) (.ref D) = some true := by
  unfold PySem.W.kitOne
  have e : ((PySem.W.clsIn K D).isSome && PySem.W.typeIn K (.ref D) == some (.type "type")) = true := by
    have h1' : (PySem.W.clsIn K D).isSome = true := h1
    rw [h1', h2]
    rfl
  by_cases z : (Value.ref C == Value.ref D) = true
  · rw [if_pos z]
  · rw [if_neg z]
    show (if ((PySem.W.clsIn K D).isSome && PySem.W.typeIn K (.ref D) == some (.type "type")) = true then PySem.W.subIn K (.ref C) (.ref D) else none) = _
    rw [if_pos e, h3]
theorem kit_ref {K : PySem.W.Frag} {C D : Addr} {b : Bool} (z : (Value.ref C == Value.ref D) = false) (h1 : PySem.W.isClsIn K D = true) (h2 : PySem.W.typeIn K (.ref D) = some (.type "type")) (h3 : PySem.W.subIn K (.ref C) (.ref D) = some b) : PySem.W.kitOne K (.ref C) (.ref D) = some b := by
  unfold PySem.W.kitOne
  have e : ((PySem.W.clsIn K D).isSome && PySem.W.typeIn K (.ref D) == some (.type "type")) = true := by
    have h1' : (PySem.W.clsIn K D).isSome = true := h1
    rw [h1', h2]
    rfl
  rw [if_neg (by rw [z]; exact Bool.false_ne_true)]
  show (if ((PySem.W.clsIn K D).isSome && PySem.W.typeIn K (.ref D) == some (.type "type")) = true then PySem.W.subIn K (.ref C) (.ref D) else none) = _
  rw [if_pos e, h3]
theorem kit_ve {K : PySem.W.Frag} {C : Addr} (h3 : PySem.W.subIn K (.ref C) (.type "ValueError") = some true) : PySem.W.kitOne K (.ref C) (.type "ValueError") = some true := by
  unfold PySem.W.kitOne
  have e : PySem.W.kitMeta "ValueError" = true := by decide +kernel
  rw [if_neg (by intro z; cases z)]
  show (if PySem.W.kitMeta "ValueError" = true then PySem.W.subIn K (.ref C) (.type "ValueError") else none) = _
  rw [if_pos e, h3]
end Vk
namespace Vk
open PySem PySem.Spec PyProof.Rows L2 GxR
abbrev sOrdInit : Stmt := inClass (top 8) 0
section
variable {P : Program} {w : World} {K : PySem.W.Frag} {mg : Str → Option Value} {base : Heap}
theorem scOrdInit : FnScope ["self", "place"] ["self", "place"] (defScope sOrdInit) := ⟨rfl, rfl, rfl, by decide +kernel, rfl, by decide +kernel, by decide +kernel⟩
theorem ok_ordInit {C fI : Addr} {fd : FuncData} (F : Fun K "__init__" "NoOrder.__init__" sOrdInit fI fd) (T : OexC K C) (no : PySem.W.findIn K (.ref C) "place" = some none) : FnOk P w K mg base CX0 1 fI fd ["self", "place"] (spIni C "place") := by
  refine F.ok scOrdInit (fun vs H Q E h => ?_) (fun cdv A outer s H vs Q E hr h => ?_)
  · obtain ⟨a, v, rfl, _⟩ := h
    rfl
  · obtain ⟨a, v, rfl, ha, k⟩ := h
    refine ⟨_, pss_one (ps_ost (pv 0) (pv 1)), ?_⟩
    exact ⟨_, rfl, _, rfl, a, C, rfl, T, no, .inl ⟨ha, fun dx n1 n2 => k dx n1 n2⟩⟩
theorem erc_ord {C : Addr} (g : mg "NoOrder" = some (.ref C)) (T : OexC K C) (no : PySem.W.findIn K (.ref C) "place" = some none) (N : Nit K "NoOrder" "NoOrder.__init__" "place" sOrdInit C) : ErC P w K mg base "NoOrder" "place" C := by
  obtain ⟨fI, fd, h1, h2, h3, h4⟩ := N.ex
  exact ⟨g, T, fI, fd, h1, h2, h4, ok_ordInit h3 T no⟩
def spCheckOrd (K : PySem.W.Frag) (C : Addr) : Sp := fun vs H Q E => ∃ (v : V) (d : PyData), vs = [v] ∧ Dp K H v d ∧ (orderPlace d = none → ∀ H', Same H H' → Q .non H') ∧
  (∀ p, orderPlace d = some p → ∀ (dx : Addr) (H' : Hp), Same H H' → H' dx = some (.xd [(("place" : Str), .int p)]) → E (.ref C) (some dx) H')
theorem scCheckOrd : FnScope ["order", "place", "index"] ["order"] (defScope sCheckOrd) := ⟨rfl, rfl, rfl, by decide +kernel, rfl, by decide +kernel, by decide +kernel⟩
theorem inV_ints {v : Int} : ∀ ns : List Int, inV (.int v) (ns.map V.int) = decide (v ∈ ns)
  | [] => by simp [inV]
  | n :: r => by
    have e : inV (.int v) ((n :: r).map V.int) = (eqV (.int n) (.int v) || inV (.int v) (r.map V.int)) := rfl
    rw [e, inV_ints r]
    have e2 : eqV (.int n) (.int v) = decide (n = v) := by
      unfold eqV
      rfl
    rw [e2]
    by_cases z : v = n
    · subst z
      simp
    · have z2 : ¬ n = v := fun q => z q.symm
      simp [z, z2]
theorem flat_ints (ns : List Int) : (ns.map V.int).all flatV = true := by
  rw [List.all_eq_true]
  intro x hx
  obtain ⟨i, _, rfl⟩ := List.mem_map.mp hx
  rfl
/-- what is left of the walk, with the integers so far -/
theorem bad_step {n : Int} {pre : List Int} {i : Nat} {d : PyData} {r : List PyData} {v : Int} (e : d = .int v) : badOrd n pre i (d :: r) = if 0 ≤ v ∧ v < n ∧ v ∉ pre then badOrd n (pre ++ [v]) (i + 1) r else some i := by
  subst e
  rfl
theorem bad_other {n : Int} {pre : List Int} {i : Nat} {d : PyData} {r : List PyData} (h : integerD 0 d = false) : badOrd n pre i (d :: r) = some i := by
  cases d with
  | int v =>
    show (if 0 ≤ v ∧ v < n ∧ v ∉ pre then _ else some i) = some i
    exact if_neg fun z => absurd (decide_eq_true z.1) (by rw [show decide (0 ≤ v) = integerD 0 (.int v) from rfl, h]; decide)
  | none => rfl
  | bool _ => rfl
  | str _ => rfl
  | list _ => rfl
  | tuple _ => rfl
  | dict _ => rfl
theorem int_of0 {m : Int} {q : PyData} (z : integerD m q = true) : ∃ i, q = .int i ∧ m ≤ i := by
  cases q with
  | int i => exact ⟨i, rfl, of_decide_eq_true z⟩
  | _ => cases z
theorem ok_checkOrd {C : Addr} (D : Df K mg "check_order" sCheckOrd ["order"]) (B : Blt mg) (ER : ErC P w K mg base "NoOrder" "place" C) (I : Cl P w K mg base CX0 1 "is_integer" ["value", "least"] (spInteger K)) : Cl P w K mg base (L2.CX P w) 3 "check_order" ["order"] (spCheckOrd K C) := by
  refine clX D scCheckOrd (fun vs H Q E h => ?_) (fun f cdv A outer s H vs Q E hr h => ?_)
  · obtain ⟨v, d, rfl, _⟩ := h
    rfl
  · obtain ⟨v, d, rfl, hd, kN, kE⟩ := h
    refine ⟨_, pss_cons (ps_if (pt_not (pt_val (pe_callB call_isi (by rfl) B.isi (by decide +kernel) (pa_cons (pv 0) (pa_cons (pe_bltn (v := .ty "tuple") (u := .type "tuple") (by rfl) B.tuple (by decide +kernel) rfl) pa_nil))))) (pss_one (ps_raiseE ER rfl hr (by decide) (takes_of rfl rfl rfl rfl) pe_int)) pss_nil)
      (pss_one (ps_for (passes_of rfl) rfl (pi_enumT B.enum (pa_cons (pv 0) pa_nil)) (pg_tup rfl (pgs_cons (pg_name (i := 1) scCheckOrd.nd rfl (.inl rfl)) (pgs_cons (pg_name (i := 2) scCheckOrd.nd rfl (.inl rfl)) pgs_nil)))
        (pss_one (ps_if (PW.pt (pw_or (pt_not (pt_val (pc I hr (by decide) (pa_cons (pv 2) (pa_cons pe_int pa_nil))))) (pw_or (pt_cmpR op_ge (pv 2) (pe_callB call_len_seq (by rfl) B.len PySem.boot_len (pa_cons (pv 0) pa_nil)) (nomark _)) (pw_or1 (pt_cmpR op_in_seq (pv 2) (pe_slice sl_tupA (pv 0) po_none (po_some (pv 1))) (by rfl))))))
          (pss_one (ps_raiseE ER rfl hr (by decide) (takes_of rfl rfl rfl rfl) (pv 1))) pss_nil)))), ?_⟩
    refine ⟨_, rfl, v, _, _, _, _, rfl, .ty "tuple", dp_ty hd, kit_tup hd, _, rfl, ?_⟩
    cases htup : isTupD d with
    | false =>
      have e2 : orderPlace d = some 0 := by
        cases d with
        | tuple ds => cases htup
        | _ => rfl
      exact iteT (raise_go fun dx H2 s1 _ hx => kE 0 e2 dx H2 s1 hx)
    | true =>
      obtain ⟨ds, rfl⟩ : ∃ ds, d = .tuple ds := by
        cases d with
        | tuple ls => exact ⟨ls, rfl⟩
        | _ => cases htup
      obtain ⟨pj, xs, rfl, qj, rj⟩ := dp_tuple hd
      have xl := dps_len rj
      have lp : orderPlace (.tuple ds) = match badOrd ds.length [] 0 ds with
        | some i => some (i : Int)
        | none => none := rfl
      refine iteF ⟨_, rfl, pj, xs, rfl, qj, for_it (walk_enumT (K := K) (a := pj) (xs := xs)) (fun i σ G => ∃ (u2 u3 : Option V) (pre : List Int), σ = [some (.ref pj), u2, u3] ∧ Same H G ∧ ds.take i = intsD pre ∧ badOrd ds.length [] 0 ds = badOrd ds.length pre i (ds.drop i))
        ⟨none, none, [], rfl, Same.refl H, rfl, rfl⟩ (fun i σ G _ ⟨_, _, _, _, s1, _⟩ => same_seqT s1 qj) ?_ ?_⟩
      · rintro i v1 σ G G2 hi ⟨u2, u3, pre, rfl, s1, ep, eb⟩ ⟨TT, x1, y1, rfl, nT, rfl, ex, ey⟩
        cases ex
        obtain ⟨d1, hd1, dp1⟩ := dps_getV rj ey
        have s2 := s1.trans (same_new (o := .tup [V.int (i : Nat), y1]) nT)
        have dr : ds.drop i = d1 :: ds.drop (i + 1) := by
          obtain ⟨h1, h2⟩ := List.getElem?_eq_some_iff.mp hd1
          rw [List.drop_eq_getElem_cons h1, h2]
        rw [dr] at eb
        have stop : badOrd ds.length pre i (d1 :: ds.drop (i + 1)) = some i → orderPlace (.tuple ds) = some (i : Int) := fun z => by rw [lp, eb, z]
        refine ⟨TT, _, rfl, SqT.of upd_same, rfl, _, _, rfl, _, _, rfl, rfl, ?_⟩
        refine ⟨_, rfl, y1, d1, 0, rfl, dp_same s2 dp1, _, rfl, ?_⟩
        cases hb : integerD 0 d1 with
        | false =>
          refine iteT (iteT ⟨_, rfl, ?_⟩)
          exact raise_go fun dx H5 s5 _ hx => kE i (stop (bad_other hb)) dx H5 (s2.trans s5) hx
        | true =>
          obtain ⟨iv, rfl, iv0⟩ := int_of0 hb
          have e1 := dp_int dp1
          subst e1
          rw [bad_step rfl] at eb stop
          refine iteF ⟨_, rfl, _, rfl, pj, xs, rfl, .inr (same_seqT s2 qj), _, _, rfl, rfl, _, rfl, ?_⟩
          rw [xl]
          refine ite2 (fun hz => ?_) (fun hz => ?_)
          · have z : (ds.length : Int) ≤ iv := of_decide_eq_true hz
            refine iteT ⟨_, rfl, ?_⟩
            exact raise_go fun dx H5 s5 _ hx => kE i (stop (if_neg (by omega))) dx H5 (s2.trans s5) hx
          have z : iv < (ds.length : Int) := Int.not_le.mp fun e => hz (decide_eq_true e)
          refine ⟨_, rfl, _, rfl, _, rfl, _, rfl, slice_go0 (dp_same s2 hd) (fun z3 G3 s3 d3 => ?_)⟩
          have il : i ≤ ds.length := by omega
          replace d3 : Dp K G3 z3 (.tuple ((ds.drop 0).take (HT.sIx ds.length ds.length (some (i : Int)) - 0))) := d3
          rw [sl_to il, List.drop_zero, Nat.sub_zero, ep] at d3
          obtain ⟨p3, ys, rfl, q3, r3⟩ := dp_tuple d3
          have e3 := ints_dps r3
          subst e3
          refine ⟨p3, _, rfl, .inr q3, rfl, flat_ints pre, _, rfl, ?_⟩
          rw [inV_ints]
          refine ite2 (fun hm => ?_) (fun hm => ?_)
          · have hm := of_decide_eq_true hm
            refine ⟨_, rfl, ?_⟩
            exact raise_go fun dx H5 s5 _ hx => kE i (stop (if_neg (fun z => z.2.2 hm))) dx H5 ((s2.trans s3).trans s5) hx
          · have hm : iv ∉ pre := fun e => hm (decide_eq_true e)
            rw [if_pos ⟨iv0, z, hm⟩] at eb
            refine ⟨_, _, pre ++ [iv], rfl, s2.trans s3, ?_, eb⟩
            rw [List.take_add_one, hd1, ep]
            unfold intsD
            rw [List.map_append]
            rfl
      · rintro σ G ⟨u2, u3, pre, rfl, s1, ep, eb⟩
        rw [xl, List.drop_length] at eb
        replace eb : badOrd ds.length [] 0 ds = none := eb
        exact kN (by rw [lp, eb]) G s1
end
end Vk
namespace Vk
open PySem PySem.Spec PyProof.Rows L2 GxR
/-- a list of new pairs of integers -/
def PrL (H : Hp) (xs : List V) (ps : List (Int × Int)) : Prop := xs.length = ps.length ∧ ∀ (j : Nat) (x : V) (p : Int × Int), xs[j]? = some x → ps[j]? = some p → ∃ t, x = .ref t ∧ H t = some (.tup [.int p.1, .int p.2])
theorem PrL.same {H H' : Hp} {xs : List V} {ps : List (Int × Int)} (h : PrL H xs ps) (s : Same H H') : PrL H' xs ps := ⟨h.1, fun j x p h1 h2 => by
  obtain ⟨t, e, q⟩ := h.2 j x p h1 h2
  exact ⟨t, e, s.at q⟩⟩
theorem PrL.snoc {H : Hp} {xs : List V} {ps : List (Int × Int)} {t : Addr} {p : Int × Int} (h : PrL H xs ps) (ht : H t = some (.tup [.int p.1, .int p.2])) : PrL H (xs ++ [.ref t]) (ps ++ [p]) := by
  refine ⟨by rw [List.length_append, List.length_append, h.1]; rfl, fun j x q h1 h2 => ?_⟩
  by_cases z : j < xs.length
  · rw [List.getElem?_append_left z] at h1
    rw [List.getElem?_append_left (by rw [← h.1]; exact z)] at h2
    exact h.2 j x q h1 h2
  · have lt := (List.getElem?_eq_some_iff.mp h1).1
    rw [List.length_append, List.length_singleton] at lt
    have ej : j = xs.length := by omega
    subst ej
    rw [List.getElem?_append_right (Nat.le_refl _), Nat.sub_self] at h1
    rw [h.1, List.getElem?_append_right (Nat.le_refl _), Nat.sub_self] at h2
    cases h1
    cases h2
    exact ⟨t, rfl, ht⟩
/-- the pair that stands at an address -/
def prK (H : Hp) : V → Int × Int
  | .ref t => match H t with
    | some (.tup [.int i, .int j]) => (i, j)
    | _ => (0, 0)
  | _ => (0, 0)
theorem prK_at {H : Hp} {t : Addr} {p : Int × Int} (h : H t = some (.tup [.int p.1, .int p.2])) : prK H (.ref t) = p := by
  unfold prK
  dsimp only
  rw [h]
theorem PrL.keys {H : Hp} {xs : List V} {ps : List (Int × Int)} (h : PrL H xs ps) : xs.map (prK H) = ps := by
  refine List.ext_getElem? fun j => ?_
  rw [List.getElem?_map]
  by_cases z : j < xs.length
  · have h1 : xs[j]? = some xs[j] := List.getElem?_eq_getElem z
    have h2 : ps[j]? = some (ps[j]'(by rw [← h.1]; exact z)) := List.getElem?_eq_getElem (by rw [← h.1]; exact z)
    obtain ⟨t, e, q⟩ := h.2 j _ _ h1 h2
    rw [h1, h2, e]
    exact congrArg some (prK_at q)
  · rw [List.getElem?_eq_none (by omega), List.getElem?_eq_none (by rw [← h.1]; omega)]
    rfl
theorem PrL.all {H : Hp} {xs : List V} {ps : List (Int × Int)} (h : PrL H xs ps) : ∀ x ∈ xs, ∃ t, x = V.ref t ∧ H t = some (.tup [.int (prK H x).1, .int (prK H x).2]) := by
  intro x hx
  obtain ⟨j, hj, e⟩ := List.mem_iff_getElem.mp hx
  have h2 : ps[j]? = some (ps[j]'(by rw [← h.1]; exact hj)) := List.getElem?_eq_getElem (by rw [← h.1]; exact hj)
  obtain ⟨t, e2, q⟩ := h.2 j x _ (by rw [List.getElem?_eq_getElem hj, e]) h2
  refine ⟨t, e2, ?_⟩
  rw [e2, prK_at q]
  exact q
/-- lengths with their indexes -/
def idxP (ls : List Int) : List (Int × Int) := (List.range ls.length).map fun (i : Nat) => (ls.getD i 0, (i : Int))
theorem idx_take {ls : List Int} {m : Nat} {x : Int} (h : ls[m]? = some x) : (idxP ls).take (m + 1) = (idxP ls).take m ++ [(x, (m : Int))] := by
  have hm : m < ls.length := (List.getElem?_eq_some_iff.mp h).1
  have e : (idxP ls)[m]? = some (x, (m : Int)) := by
    unfold idxP
    rw [List.getElem?_map, List.getElem?_range hm]
    show some (ls.getD m 0, (m : Int)) = _
    rw [List.getD_eq_getElem?_getD, h]
    rfl
  rw [List.take_add_one, e]
  rfl
theorem idx_len {ls : List Int} : (idxP ls).length = ls.length := by
  unfold idxP
  rw [List.length_map, List.length_range]
/-- what stands sorted is the order -/
theorem srt_ord {ls : List Int} {ks : List (Int × Int)} (hs : ks.Pairwise fun x y => SrtO.lexB y x = false) (hp : ks.Perm (idxP ls)) : IsOrd (ks.map (·.2)) ∧ (ks.map (·.2)).length = ls.length ∧ Chn ls (ks.map (·.2)) (ks.map (·.2)).length := by
  have kl : ks.length = ls.length := by rw [hp.length_eq, idx_len]
  have ml : (ks.map (·.2)).length = ls.length := by rw [List.length_map, kl]
  have ep : (idxP ls).map (·.2) = (List.range ls.length).map fun (i : Nat) => (i : Int) := by
    unfold idxP
    rw [List.map_map]
    rfl
  have hq : (ks.map (·.2)).Perm ((List.range ls.length).map fun (i : Nat) => (i : Int)) := by
    rw [← ep]
    exact hp.map _
  have nd : (ks.map (·.2)).Nodup := by
    refine hq.nodup_iff.mpr ?_
    refine List.pairwise_map.mpr ?_
    exact (List.nodup_range (n := ls.length)).imp fun h e => h (Int.ofNat.inj e)
  have ord : IsOrd (ks.map (·.2)) := ⟨fun v hv => by
    obtain ⟨i, hi, rfl⟩ := List.mem_map.mp (hq.mem_iff.mp hv)
    have := List.mem_range.mp hi
    rw [ml]
    omega, nd⟩
  refine ⟨ord, ml, fun i hi => ?_⟩
  rw [ml] at hi
  have h1 : ks[i]? = some (ks[i]'(by omega)) := List.getElem?_eq_getElem (by omega)
  have h2 : ks[i + 1]? = some (ks[i + 1]'(by omega)) := List.getElem?_eq_getElem (by omega)
  have fst : ∀ p ∈ ks, p.1 = lv ls p.2 := fun p hm => by
    obtain ⟨j, hj, rfl⟩ := List.mem_map.mp (hp.mem_iff.mp hm)
    rfl
  have o1 : ov (ks.map (·.2)) i = (ks[i]'(by omega)).2 := by
    unfold ov
    rw [List.getD_eq_getElem?_getD, List.getElem?_map, h1]
    rfl
  have o2 : ov (ks.map (·.2)) (i + 1) = (ks[i + 1]'(by omega)).2 := by
    unfold ov
    rw [List.getD_eq_getElem?_getD, List.getElem?_map, h2]
    rfl
  have ne := fun e => ov_inj nd (i := i) (j := i + 1) (by omega) (by omega) e
  rw [o1, o2] at ne
  have z := SrtO.lexB_no.mp ((List.pairwise_iff_getElem.mp hs) i (i + 1) (by omega) (by omega) (by omega))
  have f1 := fst _ (List.getElem_mem (show i < ks.length by omega))
  have f2 := fst _ (List.getElem_mem (show i + 1 < ks.length by omega))
  rw [o1, o2]
  unfold lnk
  rw [← f1, ← f2]
  have ne2 : (ks[i]'(by omega)).2 ≠ (ks[i + 1]'(by omega)).2 := fun e => by
    have := ne e
    omega
  omega
section
variable {P : Program} {w : World} {K : PySem.W.Frag} {mg : Str → Option Value} {base : Heap}
def spLeast (K : PySem.W.Frag) (C : Addr) : Sp := fun vs H Q E => ∃ (v : V) (d : PyData), vs = [v] ∧ Dp K H v d ∧ lenT d ≤ 900 ∧
  (∀ os, d = .tuple (intsD os) → IsOrd os → ∀ ls v' H', Lst ls os → Same H H' → Dp K H' v' (.tuple (intsD ls)) → (∀ a, H a ≠ none → Dp K (Off a H') v' (.tuple (intsD ls))) → Q v' H') ∧
  (∀ p, orderPlace d = some p → ∀ (dx : Addr) (H' : Hp), Same H H' → H' dx = some (.xd [(("place" : Str), .int p)]) → E (.ref C) (some dx) H')
theorem scLeast : FnScope ["order", "least", "length", "before", "index"] ["order"] (defScope sLeast) := ⟨rfl, rfl, rfl, by decide +kernel, rfl, by decide +kernel, by decide +kernel⟩
theorem ok_least {C : Addr} (D : Df K mg "least_lengths" sLeast ["order"]) (B : Blt mg) (CO : Cl P w K mg base (L2.CX P w) 3 "check_order" ["order"] (spCheckOrd K C)) : Cl P w K mg base (L2.CX P w) 4 "least_lengths" ["order"] (spLeast K C) := by
  refine clX D scLeast (fun vs H Q E h => ?_) (fun f cdv A outer s H vs Q E hr h => ?_)
  · obtain ⟨v, d, rfl, _⟩ := h
    rfl
  · obtain ⟨v, d, rfl, hd, l9, kN, kE⟩ := h
    obtain ⟨fL, fdL, mL, kpL, bL, FL⟩ := CO.ex
    refine ⟨_, pss_cons (ps_expr (pe_call (E := E) FL (hr.mono (by decide)) rfl mL kpL bL .nil (passes_call (W := fun cls d _ H => E cls d H) (takes_of rfl rfl rfl rfl) (fun _ _ _ _ h => h)) (pa_cons (pv 0) pa_nil)))
      (pss_cons (ps_set (i := 1) scLeast.nd rfl (Or.inl rfl) (pe_op op_rep (pe_lst (pa_cons pe_int pa_nil)) (pe_callB call_len_seq (by rfl) B.len PySem.boot_len (pa_cons (pv 0) pa_nil))))
      (pss_cons (ps_set (i := 2) scLeast.nd rfl (Or.inl rfl) pe_int)
      (pss_cons (ps_set (i := 3) scLeast.nd rfl (Or.inl rfl) (pe_un un_neg pe_int))
      (pss_cons (ps_for (passes_of rfl) rfl (pi_tup (pv 0)) (pg_name (i := 4) scLeast.nd rfl (.inl rfl))
        (pss_cons (ps_if (pt_cmpR op_lt (pv 4) (pv 3) (nomark _)) (pss_one (ps_aug (i := 2) scLeast.nd rfl (Or.inl rfl) pe_int ip_add)) pss_nil)
        (pss_cons (ps_asg (pv 2) (pg_sub (pv 1) (pv 4) set_list))
        (pss_one (ps_set (i := 3) scLeast.nd rfl (Or.inl rfl) (pv 4))))))
      (pss_one (ps_ret (pe_callTy call_tuple_of (by rfl) B.tuple (by decide +kernel) (pa_cons (pv 1) pa_nil)))))))), ?_⟩
    refine ⟨_, rfl, v, d, rfl, hd, fun rp H1 s1 => ?_, fun p e dx H' s' hx => kE p e dx H' s' hx⟩
    obtain ⟨os, rfl, ord⟩ := order_of rp
    have kN2 := kN os rfl ord
    have ll : os.length ≤ 900 := by
      have z : (intsD os).length ≤ 900 := l9
      rw [show (intsD os).length = os.length from List.length_map ..] at z
      exact z
    obtain ⟨pl, xs, rfl, ql, rl⟩ := dp_tuple (dp_same s1 hd)
    have ex := ints_dps rl
    subst ex
    refine ⟨(by show 1 ≤ sizeLine; decide), fun q nq => ?_⟩
    have sq := same_new (o := .lst [.int 0]) nq
    refine ⟨_, rfl, pl, _, rfl, .inr (same_seqT sq ql), q, _, _, rfl, rfl, upd_same, by omega, by rw [List.length_map]; omega, ?_, fun l nl => ?_⟩
    · rw [List.length_map]
      exact Nat.le_trans (show 1 * ((os.length : Nat) : Int).toNat ≤ 900 by omega) (by decide)
    have sl := same_new (o := .lst (List.replicate (((os.map V.int).length : Nat) : Int).toNat [V.int 0]).flatten) nl
    have e0 : (List.replicate (((os.map V.int).length : Nat) : Int).toNat [V.int 0]).flatten = (List.replicate os.length (0 : Int)).map V.int := by
      rw [List.length_map, Int.toNat_natCast, List.map_replicate]
      induction os.length with
      | zero => rfl
      | succ n ih => rw [List.replicate_succ, List.flatten_cons, ih]; rfl
    have hl : upd (upd H1 q (.lst [.int 0])) l (.lst (List.replicate (((os.map V.int).length : Nat) : Int).toNat [V.int 0]).flatten) l = some (.lst ((List.replicate os.length (0 : Int)).map V.int)) := by rw [upd_same, e0]
    have ql1 := same_seqT sq ql
    have sq1 := s1.trans sq
    generalize upd H1 q (.lst [.int 0]) = H2 at nl sl hl ql1 sq1 ⊢
    have hOff : Same H2 (Off l (upd H2 l (.lst (List.replicate (((os.map V.int).length : Nat) : Int).toNat [V.int 0]).flatten))) := by
      rw [off_upd, off_none nl]
      exact Same.refl H2
    generalize upd H2 l _ = H3 at sl hl hOff ⊢
    refine ⟨_, rfl, ?_⟩
    refine ⟨_, rfl, pl, rfl, ⟨_, same_seqT sl ql1⟩, for_it (walk_tup (K := K) (a := pl) (xs := os.map V.int)) (fun i σ G => ∃ (n b : Int) (u4 : Option V) (ns : List Int), σ = [some (.ref pl), some (.ref l), some (.int n), some (.int b), u4] ∧ Same H2 (Off l G) ∧ G l = some (.lst (ns.map V.int)) ∧ ns.length = os.length ∧
        (∀ j, j < i → lv ns (ov os j) = st os j) ∧ (i = 0 → n = 1 ∧ b = -1) ∧ (∀ j, i = j + 1 → n = st os j ∧ b = ov os j))
      ⟨1, -1, none, List.replicate os.length 0, rfl, hOff, hl, List.length_replicate .., fun j hj => by omega, fun _ => ⟨rfl, rfl⟩, fun j hj => by omega⟩ (fun i σ G _ ⟨_, _, _, _, _, sG, _⟩ => same_seqT (sG.trans (off_sub l G)) ql1) ?_ ?_⟩
    · rintro i y1 σ G0 G hi ⟨n, b, u4, ns, rfl, sG, lG, nl', hj, h0, h1⟩ ⟨rfl, hy1⟩
      rw [List.getElem?_map] at hy1
      obtain ⟨vi, hvi, rfl⟩ := Option.map_eq_some_iff.mp hy1
      have hi' : i < os.length := (List.getElem?_eq_some_iff.mp hvi).1
      have evi : ov os i = vi := Option.some.inj ((ov_get hi').symm.trans hvi)
      have rng := ord.rng vi (List.mem_of_getElem? hvi)
      have step : (if vi < b then n + 1 else n) = st os i := by
        cases i with
        | zero =>
          obtain ⟨rfl, rfl⟩ := h0 rfl
          rw [if_neg (by omega)]
          rfl
        | succ j =>
          obtain ⟨rfl, rfl⟩ := h1 j rfl
          show _ = (if ov os (j + 1) < ov os j then st os j + 1 else st os j)
          rw [evi]
      refine ⟨_, rfl, _, rfl, _, _, rfl, rfl, _, rfl, ?_⟩
      apply cutR (α := L2.St → Hp → Prop) (F := fun R => R [some (.ref pl), some (.ref l), some (.int (st os i)), some (.int b), some (.int vi)] G)
      · intro cont
        refine ite2 (fun hz => ?_) (fun hz => ?_)
        · rw [if_pos (of_decide_eq_true hz)] at step
          rw [← step] at cont
          exact ⟨_, rfl, _, _, rfl, rfl, cont⟩
        · rw [if_neg (fun e => hz (decide_eq_true e))] at step
          rw [← step] at cont
          exact cont
      have hk : vi.toNat < ns.length := by omega
      refine ⟨_, rfl, _, rfl, _, rfl, l, _, _, vi.toNat, rfl, rfl, lG, ixN_at rng.1 (by rw [List.length_map]; omega), ?_⟩
      refine ⟨_, rfl, st os i, vi, _, ns.set vi.toNat (st os i), rfl, by rw [off_upd]; exact sG, by rw [upd_same, List.map_set], by rw [List.length_set, nl'], fun j hji => ?_, fun e => by omega, fun j e => ?_⟩
      · have rj : 0 ≤ ov os j := by
          have hj' : j < os.length := by omega
          exact (ord.rng _ (ov_mem hj')).1
        rw [lv_set hk rj]
        by_cases e : j = i
        · subst e
          rw [evi, if_pos (by omega)]
        · rw [if_neg (fun z => e (ov_inj ord.nd (by omega) hi' (by rw [evi]; omega))), hj j (by omega)]
      · have e : i = j := by omega
        subst e
        exact ⟨rfl, evi.symm⟩
    · rintro σ G ⟨n, b, u4, ns, rfl, sG, lG, nl', hj, _, _⟩
      rw [List.length_map] at hj
      refine ⟨_, rfl, l, _, rfl, .inl ⟨SqL.of lG, fun t nt => ?_⟩⟩
      have gt := same_new (o := .tup (ns.map V.int)) nt
      have sE := sq1.trans (sG.trans (off_sub l G))
      refine kN2 ns (.ref t) _ ⟨nl', hj⟩ (sE.trans gt) (.tup (SqT.of upd_same) dps_ints) (fun a ha => .tup (a := t) (SqT.of ?_) dps_ints)
      rw [off_ne (ne_has (sE.has a ha) nt)]
      exact upd_same
end
end Vk
namespace Vk
open PySem PySem.Spec PyProof.Rows L2 GxR RZ
def rLenS (K : PySem.W.Frag) : List V → Hp → VK → Prop := fun xs H Q => ∃ p ys, xs = [.ref p] ∧ (SqL K H p ys ∨ SqT K H p ys) ∧ Q (.int ys.length) H
def rngI (n : Nat) : List Int := (List.range n).map fun (i : Nat) => (i : Int)
theorem rng_nodup (n : Nat) : (rngI n).Nodup := List.pairwise_map.mpr ((List.nodup_range (n := n)).imp fun h e => h (Int.ofNat.inj e))
theorem rng_len (n : Nat) : (rngI n).length = n := by
  unfold rngI
  rw [List.length_map, List.length_range]
theorem perm_ord {n : Nat} {os : List Int} (h : os.Perm (rngI n)) : IsOrd os ∧ os.length = n := by
  have l : os.length = n := by rw [h.length_eq, rng_len]
  refine ⟨⟨fun v hv => ?_, h.nodup_iff.mpr (rng_nodup n)⟩, l⟩
  obtain ⟨i, hi, rfl⟩ := List.mem_map.mp (h.mem_iff.mp hv)
  have := List.mem_range.mp hi
  rw [l]
  omega
theorem perm_erase {xs : List Int} {i : Nat} {y : Int} (h : xs[i]? = some y) : xs.Perm (y :: xs.eraseIdx i) := by
  obtain ⟨hi, e⟩ := List.getElem?_eq_some_iff.mp h
  rw [List.eraseIdx_eq_take_drop_succ]
  have e2 : xs = xs.take i ++ y :: xs.drop (i + 1) := by
    rw [← e, ← List.drop_eq_getElem_cons hi, List.take_append_drop]
  exact (List.Perm.of_eq e2).trans List.perm_middle
theorem perm_insert {xs : List Int} {i : Nat} {y : Int} : (xs.take i ++ [y] ++ xs.drop i).Perm (y :: xs) := by
  rw [List.append_assoc]
  refine List.perm_middle.trans ?_
  show (y :: (xs.take i ++ xs.drop i)).Perm (y :: xs)
  rw [List.take_append_drop]
theorem walk_zipT {K : PySem.W.Frag} {a b : Addr} {xs ys : List V} {n : Nat} (hn : n = min xs.length ys.length) : Walk (ItzT K a b) n (fun H => SqT K H a xs ∧ SqT K H b ys) (YPair (fun i => xs[i]?) (fun i => ys[i]?)) := by
  subst hn
  refine ⟨fun i _ hi q => ?_, fun _ q => ⟨xs, ys, q.1, q.2, by omega⟩, fun i H v H' _ q y => ?_⟩
  · have h1 : i < xs.length := by omega
    have h2 : i < ys.length := by omega
    exact ⟨xs, ys, xs[i], ys[i], q.1, q.2, by simp [h1], by simp [h2]⟩
  · obtain ⟨T, x, z, h1, h2, h3, h4, h5⟩ := y
    exact ⟨T, x, z, h1, h2, h3, h4 xs q.1, h5 ys q.2⟩
theorem ints_take {xs : List Int} {n : Nat} : (intsD xs).take n = intsD (xs.take n) := List.map_take.symm
theorem ints_drop {xs : List Int} {n : Nat} : (intsD xs).drop n = intsD (xs.drop n) := List.map_drop.symm
theorem ints_len {xs : List Int} : (intsD xs).length = xs.length := List.length_map ..
theorem ints_app {xs ys : List Int} : intsD xs ++ intsD ys = intsD (xs ++ ys) := List.map_append.symm
section
variable {P : Program} {w : World} {K : PySem.W.Frag} {mg : Str → Option Value} {base : Heap}
end
end Vk
namespace Vk
open PySem PySem.Spec PyProof.Rows L2 GxR
/-! sum of a tuple; xs[i] += e -/
def rSumT (K : PySem.W.Frag) : List V → Hp → VK → Prop := fun vs H Q => ∃ (a : Addr) (ns : List Int), vs = [V.ref a] ∧ SqT K H a (ns.map V.int) ∧ Q (.int ns.sum) H
def rGetP (K : PySem.W.Frag) : V → V → Hp → VK → Prop := fun o i H Q => ∃ p xs k v, o = V.ref p ∧ i = V.int k ∧ SqL K H p xs ∧ 0 ≤ k ∧ k < 2 ^ 63 ∧ xs[k.toNat]? = some v ∧ Q v H
section
variable {X : Cx}
theorem cr_sumT (hc : X.calm = true) : CallR X (.builtin "sum") (rSumT X.K) := by
  intro pins s σ H vs us Q I r h
  obtain ⟨a, ns, rfl, hs, q⟩ := h
  obtain ⟨its, rv, hl, _⟩ := I.tuple hs
  rw [Vals.ref1 r]
  obtain ⟨xs, hx⟩ := rv.ints.allInts.items
  have hn : numsOf its.toArray.toList = ns := by rw [show its.toArray.toList = its from rfl, rv.ints.numsOf]
  rw [hx] at hl hn
  rw [nums_intItems] at hn
  refine PySem.W.ktm_sumG (I.ok.hd hc) hl fun h' tk t' hk => ?_
  rw [preSum_eq, List.take_of_length_le (by simp), hn]
  exact ⟨.int _, H, I.kept hk, ⟨_, rfl⟩, q⟩
theorem get_listP : PGet X (rGetP X.K) := by
  intro pins s σ H o i ov iv Q I ro ri h
  obtain ⟨p, xs, k, v, rfl, rfl, hs, h0, h1, hv, q⟩ := h
  cases ro
  obtain ⟨t, rfl⟩ := ri
  obtain ⟨its, r, pl, _⟩ := I.list hs
  obtain ⟨w, ew, rw'⟩ := r.get hv
  exact getItem_listL pl.isList h0 h1 ew ⟨v, H, I, rw', q⟩
end
/-! the number of ways to write a number as a sum of parts -/
def stepT (part : Nat) (ns : List Int) (i : Nat) : List Int := ns.set (part + i) (ns.getD (part + i) 0 + ns.getD i 0)
def innT (part : Nat) (ns : List Int) (n : Nat) : List Int := (List.range n).foldl (stepT part) ns
def outT (total : Nat) (n : Nat) : List Int := (List.range n).foldl (fun a p => innT (p + 1) a (total + 1 - (p + 1))) (1 :: List.replicate total 0)
def partsT (total most : Nat) : Int := (outT total most).getD total 0
theorem innT_succ {part : Nat} {ns : List Int} {n : Nat} : innT part ns (n + 1) = stepT part (innT part ns n) n := by
  unfold innT
  rw [List.range_succ, List.foldl_append]
  rfl
theorem outT_succ {total n : Nat} : outT total (n + 1) = innT (n + 1) (outT total n) (total + 1 - (n + 1)) := by
  unfold outT
  rw [List.range_succ, List.foldl_append]
  rfl
theorem stepT_len {part i : Nat} {ns : List Int} : (stepT part ns i).length = ns.length := List.length_set ..
theorem innT_len {part : Nat} {ns : List Int} : ∀ n : Nat, (innT part ns n).length = ns.length
  | 0 => rfl
  | n + 1 => by rw [innT_succ, stepT_len, innT_len n]
theorem outT_len {total : Nat} : ∀ n : Nat, (outT total n).length = total + 1
  | 0 => by
    show (1 :: List.replicate total (0 : Int)).length = _
    rw [List.length_cons, List.length_replicate]
  | n + 1 => by rw [outT_succ, innT_len, outT_len n]
def AllN (ns : List Int) : Prop := ∀ i : Nat, 0 ≤ ns.getD i 0
theorem stepT_pos {part i : Nat} {ns : List Int} (h : AllN ns) : AllN (stepT part ns i) := by
  intro j
  unfold stepT
  rw [List.getD_eq_getElem?_getD, List.getElem?_set]
  have h1 := h (part + i)
  have h2 := h i
  have h3 := h j
  rw [List.getD_eq_getElem?_getD] at h3
  split
  · split
    · show 0 ≤ _ + _
      omega
    · exact Int.le_refl 0
  · exact h3
theorem innT_pos {part : Nat} {ns : List Int} (h : AllN ns) : ∀ n : Nat, AllN (innT part ns n)
  | 0 => h
  | n + 1 => by
    rw [innT_succ]
    exact stepT_pos (innT_pos h n)
theorem outT_pos {total : Nat} : ∀ n : Nat, AllN (outT total n)
  | 0 => by
    intro i
    show 0 ≤ (1 :: List.replicate total (0 : Int)).getD i 0
    cases i with
    | zero =>
      show (0 : Int) ≤ 1
      decide
    | succ i =>
      show 0 ≤ (List.replicate total (0 : Int)).getD i 0
      rw [List.getD_eq_getElem?_getD, List.getElem?_replicate]
      split <;> exact Int.le_refl 0
  | n + 1 => by
    rw [outT_succ]
    exact innT_pos (outT_pos n) _
theorem parts_pos {total most : Nat} : 0 ≤ partsT total most := outT_pos most total
theorem map_getD {ns : List Int} {i : Nat} (h : i < ns.length) : (ns.map V.int)[i]? = some (.int (ns.getD i 0)) := by
  rw [List.getElem?_map, List.getD_eq_getElem?_getD, List.getElem?_eq_getElem h]
  rfl
theorem atI_getD {ns : List Int} {k : Int} {i : Nat} (e : k = (i : Int)) (h : i < ns.length) : atI (ns.map V.int) k = some (.int (ns.getD i 0)) := by
  subst e
  exact atI_nat (map_getD h)
theorem rep_zero {n : Nat} : (List.replicate n [V.int 0]).flatten = (List.replicate n (0 : Int)).map V.int := by
  rw [List.map_replicate]
  induction n with
  | zero => rfl
  | succ n ih => rw [List.replicate_succ, List.flatten_cons, ih]; rfl
section
variable {P : Program} {w : World} {K : PySem.W.Frag} {mg : Str → Option Value} {base : Heap}
def spParts : Sp := fun vs H Q _ => ∃ (total most : Nat), vs = [.int total, .int most] ∧ total ≤ 1000 ∧ most ≤ 1000 ∧ ∀ H', Same H H' → Q (.int (partsT total most)) H'
theorem scParts : FnScope ["total", "most", "numbers", "part", "reached"] ["total", "most"] (defScope sParts) := ⟨rfl, rfl, rfl, by decide +kernel, rfl, by decide +kernel, by decide +kernel⟩
theorem ok_parts (D : Df K mg "count_parts" sParts ["total", "most"]) (B : Blt mg) : Cl P w K mg base CX0 1 "count_parts" ["total", "most"] spParts := by
  refine cl0 D scParts (fun vs H Q E h => ?_) (fun f cdv A outer s H vs Q E hr h => ?_)
  · obtain ⟨total, most, rfl, _⟩ := h
    rfl
  · obtain ⟨total, most, rfl, t1, m1, k⟩ := h
    refine ⟨_, pss_cons (ps_set (i := 2) scParts.nd rfl (Or.inl rfl) (pe_op op_cat (pe_lst (pa_cons pe_int pa_nil)) (pe_op op_rep (pe_lst (pa_cons pe_int pa_nil)) (pv 0))))
      (pss_cons (ps_for PassesOwn.never rfl (pi_range2 rfl B.range (pa_cons pe_int (pa_cons (pe_op op_add (pv 1) pe_int) pa_nil))) (pg_name (i := 3) scParts.nd rfl (.inl rfl))
        (pss_one (ps_for PassesOwn.never rfl (pi_range2 rfl B.range (pa_cons (pv 3) (pa_cons (pe_op op_add (pv 0) pe_int) pa_nil))) (pg_name (i := 4) scParts.nd rfl (.inl rfl))
          (pss_one (ps_augS (pv 2) (pv 4) get_listP (pe_ix ix_list (pv 2) (pe_op op_sub (pv 4) (pv 3)) (fun _ _ => rfl)) ip_add set_list)))))
      (pss_one (ps_ret (pe_ix ix_list (pv 2) (pv 0) (fun _ _ => rfl))))), ?_⟩
    refine ⟨(by show 1 ≤ sizeLine; decide), fun q1 n1 => ?_⟩
    have s1 := same_new (o := .lst [.int 1]) n1
    refine ⟨(by show 1 ≤ sizeLine; decide), fun q2 n2 => ?_⟩
    have s2 := same_new (o := .lst [.int 0]) n2
    refine ⟨_, rfl, q2, _, _, rfl, rfl, upd_same, by omega, by omega, ?_, fun q3 n3 => ?_⟩
    · exact Nat.le_trans (show 1 * ((total : Nat) : Int).toNat ≤ 1000 by omega) (by decide)
    have s3 := same_new (o := .lst (List.replicate ((total : Nat) : Int).toNat [V.int 0]).flatten) n3
    rw [Int.toNat_natCast, rep_zero] at s3 ⊢
    refine ⟨q1, q3, _, _, rfl, rfl, (s2.trans s3).at upd_same, upd_same, ?_, fun l nl => ?_⟩
    · rw [List.length_map, List.length_replicate]
      exact Nat.le_trans (show 1 + total ≤ 1001 by omega) (by decide)
    have s4 := same_new (o := .lst ([V.int 1] ++ (List.replicate total (0 : Int)).map V.int)) nl
    have s14 := ((s1.trans s2).trans s3)
    have hl : upd (upd (upd (upd H q1 (.lst [.int 1])) q2 (.lst [.int 0])) q3 (.lst ((List.replicate total (0 : Int)).map V.int))) l (.lst ([V.int 1] ++ (List.replicate total (0 : Int)).map V.int)) l = some (.lst ((outT total 0).map V.int)) := upd_same
    have hO : Same H (Off l (upd (upd (upd (upd H q1 (.lst [.int 1])) q2 (.lst [.int 0])) q3 (.lst ((List.replicate total (0 : Int)).map V.int))) l (.lst ([V.int 1] ++ (List.replicate total (0 : Int)).map V.int)))) := by
      rw [off_upd, off_none nl]
      exact s14
    generalize upd (upd (upd (upd H q1 (.lst [.int 1])) q2 (.lst [.int 0])) q3 (.lst ((List.replicate total (0 : Int)).map V.int))) l (.lst ([V.int 1] ++ (List.replicate total (0 : Int)).map V.int)) = H4 at hl hO ⊢
    clear s1 s2 s3 s4 s14 nl n1 n2 n3
    refine ⟨_, rfl, _, _, rfl, rfl, 1, (most : Int) + 1, rfl, ⟨by decide, by decide, by omega, by omega⟩, ?_⟩
    refine for_range (lo := 1) (n := ((most : Int) + 1 - 1).toNat) (fun i σ G => ∃ (u3 u4 : Option V), σ = [some (.int total), some (.int most), some (.ref l), u3, u4] ∧ Same H (Off l G) ∧ G l = some (.lst ((outT total i).map V.int)))
      ⟨none, none, rfl, hO, hl⟩ ?_ ?_
    · rintro i σ G hi ⟨u3, u4, rfl, sG, lG⟩
      refine ⟨_, rfl, _, rfl, _, _, rfl, rfl, (1 : Int) + (i : Nat), (total : Int) + 1, rfl, ⟨by omega, by omega, by omega, by omega⟩, ?_⟩
      refine for_range (lo := (1 : Int) + (i : Nat)) (n := ((total : Int) + 1 - (1 + (i : Nat))).toNat) (fun j σ G => ∃ (u4 : Option V), σ = [some (.int total), some (.int most), some (.ref l), some (.int (1 + (i : Nat))), u4] ∧ Same H (Off l G) ∧ G l = some (.lst ((innT (i + 1) (outT total i) j).map V.int)))
        ⟨_, rfl, sG, lG⟩ ?_ ?_
      · rintro j σ G hj ⟨u4, rfl, sG, lG⟩
        have ll : (innT (i + 1) (outT total i) j).length = total + 1 := by rw [innT_len, outT_len]
        have h1 : i + 1 + j < (innT (i + 1) (outT total i) j).length := by omega
        have h2 : j < (innT (i + 1) (outT total i) j).length := by omega
        have en : ((1 : Int) + (i : Nat) + (j : Nat)).toNat = i + 1 + j := by omega
        refine ⟨_, rfl, _, rfl, l, _, _, _, rfl, rfl, SqL.of lG, by omega, by omega, by rw [en]; exact map_getD h1, ?_⟩
        refine ⟨_, rfl, _, rfl, _, rfl, _, _, rfl, rfl, l, _, _, _, rfl, rfl, SqL.of lG, atI_getD (i := j) (by omega) h2, _, _, rfl, rfl, ?_⟩
        refine ⟨l, _, _, i + 1 + j, rfl, rfl, lG, ?_, _, rfl, ?_, ?_⟩
        · rw [ixN_at (by omega) (by rw [List.length_map]; omega), en]
        · rw [off_upd]
          exact sG
        · rw [upd_same, innT_succ]
          unfold stepT
          rw [List.map_set]
      · rintro σ G ⟨u4, rfl, sG, lG⟩
        refine ⟨_, _, rfl, sG, ?_⟩
        rw [outT_succ, show total + 1 - (i + 1) = ((total : Int) + 1 - (1 + (i : Nat))).toNat by omega]
        exact lG
    · rintro σ G ⟨u3, u4, rfl, sG, lG⟩
      rw [show ((most : Int) + 1 - 1).toNat = most by omega] at lG
      refine ⟨_, rfl, _, rfl, l, _, _, _, rfl, rfl, SqL.of lG, atI_getD (i := total) rfl (by rw [outT_len]; omega), ?_⟩
      exact k G (sG.trans (off_sub l G))
theorem scPartit : FnScope ["rest", "most", "table", "part", "size"] ["rest", "most"] (defScope sPartit) := ⟨rfl, rfl, rfl, by decide +kernel, rfl, by decide +kernel, by decide +kernel⟩
theorem ok_partit (D : Df K mg "_law_partitions" sPartit ["rest", "most"]) (B : Blt mg) : Cl P w K mg base CX0 1 "_law_partitions" ["rest", "most"] spParts := by
  refine cl0 D scPartit (fun vs H Q E h => ?_) (fun f cdv A outer s H vs Q E hr h => ?_)
  · obtain ⟨total, most, rfl, _⟩ := h
    rfl
  · obtain ⟨total, most, rfl, t1, m1, k⟩ := h
    refine ⟨_, pss_cons (ps_set (i := 2) scPartit.nd rfl (Or.inl rfl) (pe_op op_cat (pe_lst (pa_cons pe_int pa_nil)) (pe_op op_rep (pe_lst (pa_cons pe_int pa_nil)) (pv 0))))
      (pss_cons (ps_for PassesOwn.never rfl (pi_range2 rfl B.range (pa_cons pe_int (pa_cons (pe_op op_add (pv 1) pe_int) pa_nil))) (pg_name (i := 3) scPartit.nd rfl (.inl rfl))
        (pss_one (ps_for PassesOwn.never rfl (pi_range2 rfl B.range (pa_cons (pv 3) (pa_cons (pe_op op_add (pv 0) pe_int) pa_nil))) (pg_name (i := 4) scPartit.nd rfl (.inl rfl))
          (pss_one (ps_asg (pe_op op_add (pe_ix ix_list (pv 2) (pv 4) (fun _ _ => rfl)) (pe_ix ix_list (pv 2) (pe_op op_sub (pv 4) (pv 3)) (fun _ _ => rfl))) (pg_sub (pv 2) (pv 4) set_list))))))
      (pss_one (ps_ret (pe_ix ix_list (pv 2) (pv 0) (fun _ _ => rfl))))), ?_⟩
    refine ⟨(by show 1 ≤ sizeLine; decide), fun q1 n1 => ?_⟩
    have s1 := same_new (o := .lst [.int 1]) n1
    refine ⟨(by show 1 ≤ sizeLine; decide), fun q2 n2 => ?_⟩
    have s2 := same_new (o := .lst [.int 0]) n2
    refine ⟨_, rfl, q2, _, _, rfl, rfl, upd_same, by omega, by omega, ?_, fun q3 n3 => ?_⟩
    · exact Nat.le_trans (show 1 * ((total : Nat) : Int).toNat ≤ 1000 by omega) (by decide)
    have s3 := same_new (o := .lst (List.replicate ((total : Nat) : Int).toNat [V.int 0]).flatten) n3
    rw [Int.toNat_natCast, rep_zero] at s3 ⊢
    refine ⟨q1, q3, _, _, rfl, rfl, (s2.trans s3).at upd_same, upd_same, ?_, fun l nl => ?_⟩
    · rw [List.length_map, List.length_replicate]
      exact Nat.le_trans (show 1 + total ≤ 1001 by omega) (by decide)
    have s14 := ((s1.trans s2).trans s3)
    have hl : upd (upd (upd (upd H q1 (.lst [.int 1])) q2 (.lst [.int 0])) q3 (.lst ((List.replicate total (0 : Int)).map V.int))) l (.lst ([V.int 1] ++ (List.replicate total (0 : Int)).map V.int)) l = some (.lst ((outT total 0).map V.int)) := upd_same
    have hO : Same H (Off l (upd (upd (upd (upd H q1 (.lst [.int 1])) q2 (.lst [.int 0])) q3 (.lst ((List.replicate total (0 : Int)).map V.int))) l (.lst ([V.int 1] ++ (List.replicate total (0 : Int)).map V.int)))) := by
      rw [off_upd, off_none nl]
      exact s14
    generalize upd (upd (upd (upd H q1 (.lst [.int 1])) q2 (.lst [.int 0])) q3 (.lst ((List.replicate total (0 : Int)).map V.int))) l (.lst ([V.int 1] ++ (List.replicate total (0 : Int)).map V.int)) = H4 at hl hO ⊢
    clear s1 s2 s3 s14 nl n1 n2 n3
    refine ⟨_, rfl, _, _, rfl, rfl, 1, (most : Int) + 1, rfl, ⟨by decide, by decide, by omega, by omega⟩, ?_⟩
    refine for_range (lo := 1) (n := ((most : Int) + 1 - 1).toNat) (fun i σ G => ∃ (u3 u4 : Option V), σ = [some (.int total), some (.int most), some (.ref l), u3, u4] ∧ Same H (Off l G) ∧ G l = some (.lst ((outT total i).map V.int)))
      ⟨none, none, rfl, hO, hl⟩ ?_ ?_
    · rintro i σ G hi ⟨u3, u4, rfl, sG, lG⟩
      refine ⟨_, rfl, _, rfl, _, _, rfl, rfl, (1 : Int) + (i : Nat), (total : Int) + 1, rfl, ⟨by omega, by omega, by omega, by omega⟩, ?_⟩
      refine for_range (lo := (1 : Int) + (i : Nat)) (n := ((total : Int) + 1 - (1 + (i : Nat))).toNat) (fun j σ G => ∃ (u4 : Option V), σ = [some (.int total), some (.int most), some (.ref l), some (.int (1 + (i : Nat))), u4] ∧ Same H (Off l G) ∧ G l = some (.lst ((innT (i + 1) (outT total i) j).map V.int)))
        ⟨_, rfl, sG, lG⟩ ?_ ?_
      · rintro j σ G hj ⟨u4, rfl, sG, lG⟩
        have ll : (innT (i + 1) (outT total i) j).length = total + 1 := by rw [innT_len, outT_len]
        have h1 : i + 1 + j < (innT (i + 1) (outT total i) j).length := by omega
        have h2 : j < (innT (i + 1) (outT total i) j).length := by omega
        have en : ((1 : Int) + (i : Nat) + (j : Nat)).toNat = i + 1 + j := by omega
        refine ⟨_, rfl, _, rfl, l, _, _, _, rfl, rfl, SqL.of lG, atI_getD (i := i + 1 + j) (by omega) h1, ?_⟩
        refine ⟨_, rfl, _, rfl, _, rfl, _, _, rfl, rfl, l, _, _, _, rfl, rfl, SqL.of lG, atI_getD (i := j) (by omega) h2, _, _, rfl, rfl, ?_⟩
        refine ⟨_, rfl, _, rfl, l, _, _, i + 1 + j, rfl, rfl, lG, ?_, _, rfl, ?_, ?_⟩
        · rw [ixN_at (by omega) (by rw [List.length_map]; omega), en]
        · rw [off_upd]
          exact sG
        · rw [upd_same, innT_succ]
          unfold stepT
          rw [List.map_set]
      · rintro σ G ⟨u4, rfl, sG, lG⟩
        refine ⟨_, _, rfl, sG, ?_⟩
        rw [outT_succ, show total + 1 - (i + 1) = ((total : Int) + 1 - (1 + (i : Nat))).toNat by omega]
        exact lG
    · rintro σ G ⟨u3, u4, rfl, sG, lG⟩
      rw [show ((most : Int) + 1 - 1).toNat = most by omega] at lG
      refine ⟨_, rfl, _, rfl, l, _, _, _, rfl, rfl, SqL.of lG, atI_getD (i := total) rfl (by rw [outT_len]; omega), ?_⟩
      exact k G (sG.trans (off_sub l G))
/-- how many lengths of this order have the sum -/
def robC (ls : List Int) (total : Int) : Int := if 0 ≤ total - ls.sum then partsT (total - ls.sum).toNat ls.length else 0
theorem robC_pos {ls : List Int} {total : Int} : 0 ≤ robC ls total := by
  unfold robC
  split
  · exact parts_pos
  · exact Int.le_refl 0
def spRobin (K : PySem.W.Frag) (C : Addr) : Sp := fun vs H Q E => ∃ (v : V) (d : PyData) (total : Int), vs = [v, .int total] ∧ Dp K H v d ∧ lenT d ≤ 900 ∧ 0 ≤ total ∧ total ≤ 1000 ∧
  (∀ os ls, d = .tuple (intsD os) → IsOrd os → Lst ls os → ∀ H', Same H H' → Q (.int (robC ls total)) H') ∧
  (∀ p, orderPlace d = some p → ∀ (dx : Addr) (H' : Hp), Same H H' → H' dx = some (.xd [(("place" : Str), .int p)]) → E (.ref C) (some dx) H')
theorem scRobin : FnScope ["order", "total", "rest"] ["order", "total"] (defScope sRobin) := ⟨rfl, rfl, rfl, by decide +kernel, rfl, by decide +kernel, by decide +kernel⟩
theorem sum_pos : ∀ {ls : List Int}, (∀ v ∈ ls, 1 ≤ v) → 0 ≤ ls.sum
  | [], _ => Int.le_refl 0
  | x :: r, h => by
    rw [List.sum_cons]
    have h1 := h x (by simp)
    have h2 := sum_pos (fun v hv => h v (List.mem_cons_of_mem x hv))
    omega
theorem ok_robin {C : Addr} (D : Df K mg "count_robin" sRobin ["order", "total"]) (B : Blt mg) (sm : mg "sum" = none) (LE : Cl P w K mg base (L2.CX P w) 4 "least_lengths" ["order"] (spLeast K C)) (PT : Cl P w K mg base CX0 1 "count_parts" ["total", "most"] spParts) : Cl P w K mg base (L2.CX P w) 5 "count_robin" ["order", "total"] (spRobin K C) := by
  refine clX D scRobin (fun vs H Q E h => ?_) (fun f cdv A outer s H vs Q E hr h => ?_)
  · obtain ⟨v, d, total, rfl, _⟩ := h
    rfl
  · obtain ⟨v, d, total, rfl, hd, l9, t0, t1, kN, kE⟩ := h
    obtain ⟨fL, fdL, mL, kpL, bL, FL⟩ := LE.ex
    refine ⟨_, pss_cons (ps_set (i := 2) scRobin.nd rfl (Or.inl rfl) (pe_op op_sub (pv 1) (pe_callB (cr_sumT rfl) (by rfl) sm (by decide +kernel) (pa_cons (pe_call (E := E) FL (hr.mono (by decide)) rfl mL kpL bL .nil (passes_call (W := fun cls d _ H => E cls d H) (takes_of rfl rfl rfl rfl) (fun _ _ _ _ h => h)) (pa_cons (pv 0) pa_nil)) pa_nil))))
      (pss_one (ps_ret (pe_ifExp (pt_cmpR op_ge (pv 2) pe_int (nomark _)) (pc PT hr (by decide) (pa_cons (pv 2) (pa_cons (pe_callB call_len_seq (by rfl) B.len PySem.boot_len (pa_cons (pv 0) pa_nil)) pa_nil))) pe_int))), ?_⟩
    refine ⟨_, rfl, _, rfl, v, d, rfl, hd, l9, fun os ed io ls v2 H1 lst s1 d1 _ => ?_, fun p e dx H' s' hx => kE p e dx H' s' hx⟩
    subst ed
    have lpos := lst_pos io lst
    obtain ⟨pa, xs, rfl, qa, ra⟩ := dp_tuple d1
    have ea := ints_dps ra
    subst ea
    obtain ⟨pv_, ys, rfl, qv, rv⟩ := dp_tuple (dp_same s1 hd)
    have ev := ints_dps rv
    subst ev
    have sp := sum_pos lpos
    have l9' : os.length ≤ 900 := by
      have z : (intsD os).length ≤ 900 := l9
      rw [ints_len] at z
      exact z
    refine ⟨pa, ls, rfl, qa, _, _, rfl, rfl, ?_⟩
    refine ⟨_, rfl, _, _, rfl, rfl, _, rfl, ?_⟩
    refine ite2 (fun hz => ?_) (fun hz => ?_)
    · have hz : 0 ≤ total - ls.sum := of_decide_eq_true hz
      obtain ⟨n, en⟩ := Int.eq_ofNat_of_zero_le hz
      refine ⟨_, rfl, _, rfl, pv_, _, rfl, .inr qv, n, os.length, ?_, by omega, by omega, fun H2 s2 => ?_⟩
      · show [V.int (total - ls.sum), V.int (((os.map V.int).length : Nat) : Int)] = [V.int (n : Int), V.int (os.length : Int)]
        rw [en, List.length_map]
      · have z := kN os ls rfl io lst H2 (s1.trans s2)
        unfold robC at z
        rw [if_pos hz, en, Int.toNat_natCast, lst.1] at z
        exact z
    · have hz : ¬ 0 ≤ total - ls.sum := fun e => hz (decide_eq_true e)
      have z := kN os ls rfl io lst H1 s1
      unfold robC at z
      rw [if_neg hz] at z
      exact z
end
end Vk
namespace Vk
open PySem PySem.Spec PyProof.Rows L2 GxR
/-! all lists of a sum, all orders -/
def nxP (p : List Int × Int) : List (List Int × Int) := (List.range p.2.toNat).map fun (i : Nat) => (p.1 ++ [1 + (i : Int)], p.2 - (1 + (i : Int)))
def partP (total : Int) : Nat → List (List Int × Int)
  | 0 => [([], total)]
  | n + 1 => (partP total n).flatMap nxP
def partedL (total : Int) (count : Nat) : List (List Int) := ((partP total count).filter fun p => decide (p.2 = 0)).map (·.1)
def nxO (n : Nat) (r : List Int) : List (List Int) := ((rngI n).filter fun e => !decide (e ∈ r)).map fun e => r ++ [e]
def ordO (n : Nat) : Nat → List (List Int)
  | 0 => [[]]
  | i + 1 => (ordO n i).flatMap (nxO n)
theorem partP_len : ∀ total : Fin 12, ∀ c : Fin 5, (partP (total.1 : Int) c.1).length ≤ 400 := by decide +kernel
theorem ordO_len : ∀ n : Fin 5, ∀ c : Fin 6, (ordO n.1 c.1).length ≤ 24 := by decide +kernel
def rowD (p : List Int × Int) : PyData := .tuple [.tuple (intsD p.1), .int p.2]
theorem flat_take {α β : Type} (f : α → List β) (xs : List α) (j : Nat) : ((xs.take j).flatMap f).length ≤ (xs.flatMap f).length := by
  rw [show xs.flatMap f = (xs.take j).flatMap f ++ (xs.drop j).flatMap f by rw [← List.flatMap_append, List.take_append_drop], List.length_append]
  omega
theorem flat_snoc {α β : Type} (f : α → List β) {xs : List α} {j : Nat} {x : α} (h : xs[j]? = some x) : (xs.take (j + 1)).flatMap f = (xs.take j).flatMap f ++ f x := by
  rw [List.take_add_one, h, List.flatMap_append]
  show _ ++ [x].flatMap f = _
  rw [List.flatMap_singleton]
theorem partP_mem {total : Int} (h0 : 0 ≤ total) : ∀ (n : Nat) (p : List Int × Int), p ∈ partP total n → 0 ≤ p.2 ∧ p.2 ≤ total ∧ p.1.length = n
  | 0, p, h => by
    rw [List.mem_singleton.mp h]
    exact ⟨h0, Int.le_refl _, rfl⟩
  | n + 1, p, h => by
    obtain ⟨q, hq, h2⟩ := List.mem_flatMap.mp h
    obtain ⟨i, hi, rfl⟩ := List.mem_map.mp h2
    have hi := List.mem_range.mp hi
    obtain ⟨a, b, c⟩ := partP_mem h0 n q hq
    refine ⟨?_, ?_, ?_⟩
    · show 0 ≤ q.2 - (1 + (i : Int))
      omega
    · show q.2 - (1 + (i : Int)) ≤ total
      omega
    · show (q.1 ++ [1 + (i : Int)]).length = n + 1
      rw [List.length_append, c]
      rfl
theorem dp_lst0 {K : PySem.W.Frag} {H : Hp} {v : V} {ds : List PyData} (h : Dp K H v (.list ds)) : ∃ p xs, v = .ref p ∧ SqL K H p xs ∧ DpAll K H xs ds := by
  cases h with
  | lst q r => exact ⟨_, _, rfl, q, r⟩
theorem dp_two' {K : PySem.W.Frag} {H : Hp} {v : V} {a b : PyData} (h : Dp K H v (.tuple [a, b])) : ∃ p x y, v = .ref p ∧ SqT K H p [x, y] ∧ Dp K H x a ∧ Dp K H y b := by
  obtain ⟨p, xs, rfl, q, r⟩ := dp_tuple h
  cases r with
  | cons h1 r =>
    cases r with
    | cons h2 r =>
      cases r
      exact ⟨p, _, _, rfl, q, h1, h2⟩
/-- a list of tuples of integers, each a new object -/
def TsL (H : Hp) (xs : List V) (rs : List (List Int)) : Prop := xs.length = rs.length ∧ ∀ (j : Nat) (x : V) (r : List Int), xs[j]? = some x → rs[j]? = some r → ∃ t, x = .ref t ∧ H t = some (.tup (r.map V.int))
theorem TsL.same {H H' : Hp} {xs : List V} {ps : List (List Int)} (h : TsL H xs ps) (s : Same H H') : TsL H' xs ps := ⟨h.1, fun j x p h1 h2 => by
  obtain ⟨t, e, q⟩ := h.2 j x p h1 h2
  exact ⟨t, e, s.at q⟩⟩
theorem TsL.app {H : Hp} {xs ys : List V} {ps qs : List (List Int)} (h : TsL H xs ps) (g : TsL H ys qs) : TsL H (xs ++ ys) (ps ++ qs) := by
  refine ⟨by rw [List.length_append, List.length_append, h.1, g.1], fun j x q h1 h2 => ?_⟩
  by_cases z : j < xs.length
  · rw [List.getElem?_append_left z] at h1
    rw [List.getElem?_append_left (by rw [← h.1]; exact z)] at h2
    exact h.2 j x q h1 h2
  · rw [List.getElem?_append_right (by omega)] at h1
    rw [List.getElem?_append_right (by rw [← h.1]; omega), ← h.1] at h2
    exact g.2 _ x q h1 h2
theorem TsL.one {H : Hp} {t : Addr} {r : List Int} (ht : H t = some (.tup (r.map V.int))) : TsL H [.ref t] [r] := ⟨rfl, fun j x q h1 h2 => by
  cases j with
  | zero =>
    cases h1
    cases h2
    exact ⟨t, rfl, ht⟩
  | succ j => cases h1⟩
section
variable {P : Program} {w : World} {K : PySem.W.Frag} {mg : Str → Option Value} {base : Heap}
def spParted (K : PySem.W.Frag) : Sp := fun vs H Q _ => ∃ (total count : Nat), vs = [.int total, .int count] ∧ total < 12 ∧ count < 5 ∧ ∀ v' H', Same H H' → Dp K H' v' (.list ((partedL total count).map fun r => .tuple (intsD r))) → Q v' H'
theorem scParted : FnScope ["total", "count", "rows", "k", "longer", "row", "left", "length"] ["total", "count"] (defScope sParted) := ⟨rfl, rfl, rfl, by decide +kernel, rfl, by decide +kernel, by decide +kernel⟩
theorem ok_parted (D : Df K mg "_law_parted" sParted ["total", "count"]) (B : Blt mg) : Cl P w K mg base CX0 1 "_law_parted" ["total", "count"] (spParted K) := by
  refine cl0 D scParted (fun vs H Q E h => ?_) (fun f cdv A outer s H vs Q E hr h => ?_)
  · obtain ⟨total, count, rfl, _⟩ := h
    rfl
  · obtain ⟨total, count, rfl, t12, c5, k⟩ := h
    refine ⟨_, pss_cons (ps_set (i := 2) scParted.nd rfl (Or.inl rfl) (pe_lst (pa_cons (pe_tup (pa_cons (pe_tup pa_nil) (pa_cons (pv 0) pa_nil))) pa_nil)))
      (pss_cons (ps_for PassesOwn.never rfl (pi_range1 rfl B.range (pa_cons (pv 1) pa_nil)) (pg_name (i := 3) scParted.nd rfl (.inl rfl))
        (pss_cons (ps_set (i := 4) scParted.nd rfl (Or.inl rfl) (pe_lst pa_nil))
        (pss_cons (ps_for PassesOwn.never rfl (pi_list (pv 2)) (pg_tup rfl (pgs_cons (pg_name (i := 5) scParted.nd rfl (.inr rfl)) (pgs_cons (pg_name (i := 6) scParted.nd rfl (.inr rfl)) pgs_nil)))
          (pss_one (ps_set (i := 4) scParted.nd rfl (Or.inl rfl) (pe_op op_cat (pv 4)
            (pe_lc (own := [("length", 7)]) (g := gName 7) (tt := tYes) (te := tTup (tCons (tOp (rCatA K) (tVar 5) (tTup (tCons (tVar 7) tNil))) (tCons (tOp (rI0 fun i j => .int (i - j)) (tVar 6) (tVar 7)) tNil))) (by rfl) scParted.nd (pi_range2 rfl B.range (pa_cons pe_int (pa_cons (pe_op op_add (pv 6) pe_int) pa_nil)))
              (blkOk_by (own := [("length", 7)]) (N := ["total", "count", "rows", "k", "longer", "row", "left", "length"]) (sc := defScope sParted) (by decide +kernel))
              (fun _ _ _ _ _ => pg_name (i := 7) scParted.nd rfl (Or.inl rfl)) (fun _ _ _ _ _ => pts_nil) (fun _ _ _ _ _ => pe_tup (pa_cons (pe_op op_catA (pv 5) (pe_tup (pa_cons (pv 7) pa_nil))) (pa_cons (pe_op op_sub (pv 6) (pv 7)) pa_nil))))))))
        (pss_one (ps_set (i := 2) scParted.nd rfl (Or.inl rfl) (pv 4))))))
      (pss_one (ps_ret (pe_lc (own := [("row", 5), ("left", 6)]) (g := gTup K 2 (gCons (gName 5) (gCons (gName 6) gNil))) (tt := tTest (tOp rEq (tVar 6) (tC (.int 0)))) (te := tVar 5) (by rfl) scParted.nd (pi_list (pv 2))
        (blkOk_by (own := [("row", 5), ("left", 6)]) (N := ["total", "count", "rows", "k", "longer", "row", "left", "length"]) (sc := defScope sParted) (by decide +kernel))
        (fun _ _ _ _ _ => pg_tup rfl (pgs_cons (pg_name (i := 5) scParted.nd rfl (Or.inl rfl)) (pgs_cons (pg_name (i := 6) scParted.nd rfl (Or.inl rfl)) pgs_nil))) (fun _ _ _ _ _ => pts_one (pt_cmpR op_eq (pv 6) pe_int (nomark _))) (fun _ _ _ _ _ => pv 5))))), ?_⟩
    refine ⟨(by show 0 ≤ sizeLine; decide), fun p0 n0 => ?_⟩
    have d0 := nt0 (K := K) (vs := []) n0 .nil
    have s0 := same_new (o := .tup []) n0
    refine ⟨_, rfl, (by show 2 ≤ sizeLine; decide), fun p1 n1 => ?_⟩
    have d1 := nt0 (K := K) (vs := [.ref p0, .int total]) n1 (.cons d0 (.cons (.int _) .nil))
    have s1 := same_new (o := .tup [.ref p0, .int total]) n1
    refine ⟨(by show 1 ≤ sizeLine; decide), fun r0 nr0 => ?_⟩
    have sr := same_new (o := .lst [.ref p1]) nr0
    have dr0 : Dp K (upd (upd (upd H p0 (.tup [])) p1 (.tup [.ref p0, .int total])) r0 (.lst [.ref p1])) (.ref r0) (.list ((partP total 0).map rowD)) := .lst (SqL.of upd_same) (.cons (dp_same sr d1) .nil)
    have s01 := (s0.trans s1).trans sr
    generalize upd (upd (upd H p0 (.tup [])) p1 (.tup [.ref p0, .int total])) r0 (.lst [.ref p1]) = H1 at dr0 s01 ⊢
    refine ⟨_, rfl, count, rfl, by omega, by omega, ?_⟩
    refine for_range (lo := 0) (n := ((count : Nat) : Int).toNat) (fun i σ G => ∃ (ra : Addr) (u3 u4 u5 u6 : Option V), σ = [some (.int total), some (.int count), some (.ref ra), u3, u4, u5, u6, none] ∧ Same H G ∧ Dp K G (.ref ra) (.list ((partP total i).map rowD)))
      ⟨r0, none, none, none, none, rfl, s01, dr0⟩ ?_ ?_
    · rintro i σ G hi ⟨ra, u3, u4, u5, u6, rfl, sG, dG⟩
      rw [Int.toNat_natCast] at hi
      have lnx : ((partP total i).flatMap nxP).length ≤ 400 := partP_len ⟨total, t12⟩ ⟨i + 1, by omega⟩
      obtain ⟨pr, xs, e, qr, rr⟩ := dp_lst0 dG
      cases e
      have xl := dps_len rr
      rw [List.length_map] at xl
      refine ⟨(by show 0 ≤ sizeLine; decide), fun lo nlo => ?_⟩
      have slo := same_new (o := .lst []) nlo
      refine ⟨_, rfl, ra, rfl, ⟨_, slo.seq qr⟩, for_it (walk_list (K := K) (a := ra) (xs := xs)) (fun j σ J => ∃ (la : Addr) (u5 u6 : Option V), σ = [some (.int total), some (.int count), some (.ref ra), some (.int (0 + (i : Nat))), some (.ref la), u5, u6, none] ∧ Same G J ∧ ∃ ws, J la = some (.lst ws) ∧ DpAll K J ws ((((partP total i).take j).flatMap nxP).map rowD))
        ⟨lo, u5, u6, rfl, slo, [], upd_same, .nil⟩ (fun j σ J _ ⟨_, _, _, _, sJ, _⟩ => sJ.seq qr) ?_ ?_⟩
      · rintro j y1 σ J0 J hj ⟨la, u5, u6, rfl, sJ, ws, hla, rla⟩ ⟨rfl, hy1⟩
        obtain ⟨dd, hdd, ddd⟩ := dps_getV rr hy1
        rw [List.getElem?_map] at hdd
        obtain ⟨p, hp, rfl⟩ := Option.map_eq_some_iff.mp hdd
        obtain ⟨pp, xv, yv, rfl, qp, dx, dy⟩ := dp_two' (dp_same sJ ddd)
        have ey := dp_int dy
        subst ey
        refine ⟨pp, _, rfl, qp, rfl, _, _, rfl, _, _, rfl, rfl, ?_⟩
        obtain ⟨b0, b1, b2⟩ := partP_mem (total := (total : Int)) (by omega) i p (List.mem_of_getElem? hp)
        have wl := dps_len rla
        rw [List.length_map] at wl
        have fl := flat_take nxP (partP total i) (j + 1)
        rw [flat_snoc nxP hp, List.length_append] at fl
        have nl : (nxP p).length = p.2.toNat := by
          unfold nxP
          rw [List.length_map, List.length_range]
        refine ⟨_, rfl, _, rfl, _, _, rfl, rfl, 1, p.2 + 1, rfl, ⟨by omega, by omega, by omega, by omega⟩, fun D1 nD1 => ?_⟩
        refine lc_it (walk_range (lo := 1) (n := (p.2 + 1 - 1).toNat)) (fun m Hc => ∃ acc, Same J (Off D1 Hc) ∧ Hc D1 = some (.lst acc) ∧ DpAll K (Off D1 Hc) acc (((nxP p).take m).map rowD))
          ⟨[], by rw [off_upd, off_none nD1]; exact Same.refl J, upd_same, .nil⟩ (fun _ _ _ _ => trivial) ?_ ?_
        · rintro m y1 Hc0 Hc hm ⟨acc, s3, hD, dac⟩ ⟨rfl, rfl⟩
          rw [show (p.2 + 1 - 1).toNat = p.2.toNat by omega] at hm
          have s3F := s3.trans (off_sub D1 Hc)
          have al := dps_len dac
          rw [List.length_map, List.length_take] at al
          have hm2 : (nxP p)[m]? = some (p.1 ++ [1 + (m : Int)], p.2 - (1 + (m : Int))) := by
            unfold nxP
            rw [List.getElem?_map, List.getElem?_range hm]
            rfl
          refine ⟨rfl, ?_⟩
          refine ⟨_, rfl, _, rfl, (by show 1 ≤ sizeLine; decide), fun t1 nt1 => ?_⟩
          have st1 := same_new (o := .tup [.int (1 + (m : Nat))]) nt1
          have dt1 := nt0 (K := K) (vs := [.int (1 + (m : Nat))]) nt1 (.cons (.int _) .nil)
          have tD : t1 ≠ D1 := fun e => by rw [e, hD] at nt1; cases nt1
          have dx1 : Dp K (Off D1 (upd Hc t1 (.tup [.int (1 + (m : Nat))]))) xv (.tuple (intsD p.1)) := dp_same (s3.trans (off_mono st1)) dx
          have dt1' : Dp K (Off D1 (upd Hc t1 (.tup [.int (1 + (m : Nat))]))) (.ref t1) (.tuple [.int (1 + (m : Nat))]) := .tup (a := t1) (SqT.of (by rw [off_ne tD]; exact upd_same)) (.cons (.int _) .nil)
          have hD1 := st1.at hD
          refine cat_go (a := D1) (has_of hD1) dx1 dt1' (by rw [ints_len]; show _ + 1 ≤ 1000; omega) (fun z G1 g1 dz => ?_)
          have hD2 := g1.at hD1
          refine ⟨_, rfl, _, rfl, _, _, rfl, rfl, (by show 2 ≤ sizeLine; decide), fun t2 nt2 => ?_⟩
          have st2 := same_new (o := .tup [z, .int (p.2 - (1 + (m : Nat)))]) nt2
          have t2D : t2 ≠ D1 := fun e => by rw [e, hD2] at nt2; cases nt2
          have sAll := (st1.trans g1).trans st2
          refine ⟨acc, st2.at hD2, Nat.lt_of_le_of_lt (show acc.length ≤ 400 by omega) (by decide), acc ++ [.ref t2], ?_, upd_same, ?_⟩
          · rw [off_upd]
            exact s3.trans (off_mono sAll)
          · rw [off_upd, List.take_add_one, hm2]
            show DpAll K _ _ (((nxP p).take m ++ [_]).map rowD)
            rw [List.map_append]
            have ez : intsD p.1 ++ [PyData.int (1 + (m : Int))] = intsD (p.1 ++ [1 + (m : Int)]) := by
              unfold intsD
              rw [List.map_append]
              rfl
            rw [show [PyData.int (1 + ((m : Nat) : Int))] = [PyData.int (1 + (m : Int))] from rfl, ez] at dz
            refine dps_app (dps_same (off_mono sAll) dac) (.cons (.tup (a := t2) (SqT.of ?_) (.cons (dp_up st2 dz) (.cons (.int _) .nil))) .nil)
            rw [off_ne t2D]
            exact upd_same
        rintro J1 ⟨acc, t3, hD1, dac⟩
        rw [show (p.2 + 1 - 1).toNat = (nxP p).length by omega, List.take_length] at dac
        have sF := t3.trans (off_sub D1 J1)
        have dac := dps_same (off_sub D1 J1) dac
        have al := dps_len dac
        rw [List.length_map] at al
        have rla1 := dps_same sF rla
        refine ⟨la, D1, ws, acc, rfl, rfl, sF.at hla, hD1, ?_, fun l2 nl2 => ?_⟩
        · exact Nat.le_trans (show ws.length + acc.length ≤ 400 by omega) (by decide)
        have sl2 := same_new (o := .lst (ws ++ acc)) nl2
        refine ⟨l2, _, _, rfl, (sJ.trans sF).trans sl2, ws ++ acc, upd_same, ?_⟩
        rw [flat_snoc nxP hp, List.map_append]
        exact dps_same sl2 (dps_app rla1 dac)
      · rintro σ J ⟨la, u5, u6, rfl, sJ, ws, hla, rla⟩
        rw [xl, List.take_length] at rla
        exact ⟨_, rfl, la, _, _, _, _, rfl, sG.trans sJ, .lst (SqL.of hla) rla⟩
    · rintro σ G ⟨ra, u3, u4, u5, u6, rfl, sG, dG⟩
      rw [Int.toNat_natCast] at dG
      have lnx : (partP total count).length ≤ 400 := partP_len ⟨total, t12⟩ ⟨count, c5⟩
      obtain ⟨pr, xs, e, qr, rr⟩ := dp_lst0 dG
      cases e
      have xl := dps_len rr
      rw [List.length_map] at xl
      refine ⟨_, rfl, ra, rfl, ⟨_, qr⟩, fun D1 nD1 => ?_⟩
      refine lc_it (walk_list (K := K) (a := ra) (xs := xs)) (fun m Hc => ∃ acc, Same G (Off D1 Hc) ∧ Hc D1 = some (.lst acc) ∧ DpAll K (Off D1 Hc) acc (((((partP (total : Int) count).take m).filter fun (p : List Int × Int) => decide (p.2 = 0)).map (·.1)).map fun r => .tuple (intsD r)))
        ⟨[], by rw [off_upd, off_none nD1]; exact Same.refl G, upd_same, .nil⟩ (fun m Hc _ ⟨_, s3, _⟩ => (s3.trans (off_sub D1 Hc)).seq qr) ?_ ?_
      · rintro m y1 Hc0 Hc hm ⟨acc, s3, hD, dac⟩ ⟨rfl, hy1⟩
        have s3F := s3.trans (off_sub D1 Hc)
        obtain ⟨dd, hdd, ddd⟩ := dps_getV rr hy1
        rw [List.getElem?_map] at hdd
        obtain ⟨p, hp, rfl⟩ := Option.map_eq_some_iff.mp hdd
        obtain ⟨pp, xv, yv, rfl, qp, dx, dy⟩ := dp_two' ddd
        have ey := dp_int dy
        subst ey
        have al := dps_len dac
        rw [List.length_map, List.length_map] at al
        have al2 := List.length_filter_le (fun p : List Int × Int => decide (p.2 = 0)) ((partP total count).take m)
        rw [List.length_take] at al2
        have e2 : ((partP (total : Int) count).take (m + 1)).filter (fun p => decide (p.2 = 0)) = ((partP (total : Int) count).take m).filter (fun p => decide (p.2 = 0)) ++ (if p.2 = 0 then [p] else []) := by
          rw [List.take_add_one, hp, List.filter_append]
          congr 1
          show [p].filter _ = _
          by_cases z : p.2 = 0
          · rw [if_pos z, List.filter_cons_of_pos (by exact decide_eq_true z), List.filter_nil]
          · rw [if_neg z, List.filter_cons_of_neg (by exact fun e => z (of_decide_eq_true e)), List.filter_nil]
        refine ⟨pp, _, rfl, same_seqT s3F qp, rfl, _, _, rfl, _, _, rfl, rfl, rfl, ?_⟩
        refine ⟨_, rfl, rfl, _, rfl, ?_⟩
        refine ite2 (fun hz => ?_) (fun hz => ?_)
        · have hz : p.2 = 0 := V.int.inj (of_decide_eq_true hz)
          refine ⟨_, rfl, acc, hD, Nat.lt_of_le_of_lt (show acc.length ≤ 400 by omega) (by decide), acc ++ [xv], ?_, upd_same, ?_⟩
          · rw [off_upd]
            exact s3
          · rw [off_upd, e2, if_pos hz, List.map_append, List.map_append]
            exact dps_app dac (.cons (dp_same s3 dx) .nil)
        · have hz : ¬ p.2 = 0 := fun e => hz (decide_eq_true (by rw [e]))
          rw [e2, if_neg hz, List.append_nil]
          exact ⟨acc, s3, hD, dac⟩
      rintro J1 ⟨acc, t3, hD1, dac⟩
      rw [xl, List.take_length] at dac
      exact k (.ref D1) _ (sG.trans (t3.trans (off_sub D1 J1))) (.lst (SqL.of hD1) (dps_same (off_sub D1 J1) dac))
end
end Vk
namespace Vk
open PySem PySem.Spec PyProof.Rows L2 GxR
theorem rng_get {n m : Nat} (h : m < n) : (rngI n)[m]? = some (m : Int) := by
  unfold rngI
  rw [List.getElem?_map, List.getElem?_range h]
  rfl
theorem catI_go {K : PySem.W.Frag} {H : Hp} {p q : Addr} {xs ys : List Int} {Q : VK} (hx : H p = some (.tup (xs.map V.int))) (hy : H q = some (.tup (ys.map V.int))) (hl : xs.length + ys.length ≤ 1000)
    (k : ∀ z H', Same H H' → H' z = some (.tup ((xs ++ ys).map V.int)) → (H z = none ∨ z = p ∨ z = q) → Q (.ref z) H') : rCatA K (.ref p) (.ref q) H Q := by
  refine ⟨p, q, _, _, rfl, rfl, SqT.of hx, SqT.of hy, ?_, fun e => ?_, fun _ e => ?_, fun _ _ t nt => ?_⟩
  · rw [List.length_map, List.length_map]
    exact Nat.le_trans hl (by decide)
  · have e2 : xs = [] := List.map_eq_nil_iff.mp e
    subst e2
    exact k q H (Same.refl H) hy (.inr (.inr rfl))
  · have e2 : ys = [] := List.map_eq_nil_iff.mp e
    subst e2
    refine k p H (Same.refl H) ?_ (.inr (.inl rfl))
    rw [List.append_nil]
    exact hx
  · refine k t _ (same_new nt) ?_ (.inl nt)
    rw [upd_same, List.map_append]
section
variable {P : Program} {w : World} {K : PySem.W.Frag} {mg : Str → Option Value} {base : Heap}
def spOrders : Sp := fun vs H Q _ => ∃ (n : Nat), vs = [.int n] ∧ n < 5 ∧ ∀ l xs H', Same H H' → H' l = some (.lst xs) → TsL H' xs (ordO n n) → Q (.ref l) H'
theorem scOrders : FnScope ["count", "rows", "k", "longer", "row", "entry"] ["count"] (defScope sOrders) := ⟨rfl, rfl, rfl, by decide +kernel, rfl, by decide +kernel, by decide +kernel⟩
theorem ordO_mem {n : Nat} : ∀ (i : Nat) (r : List Int), r ∈ ordO n i → r.length = i
  | 0, r, h => by
    rw [List.mem_singleton.mp h]
    rfl
  | i + 1, r, h => by
    obtain ⟨q, hq, h2⟩ := List.mem_flatMap.mp h
    obtain ⟨e, _, rfl⟩ := List.mem_map.mp h2
    rw [List.length_append, ordO_mem i q hq]
    rfl
theorem ok_orders (D : Df K mg "_law_orders" sOrders ["count"]) (B : Blt mg) : Cl P w K mg base CX0 1 "_law_orders" ["count"] spOrders := by
  refine cl0 D scOrders (fun vs H Q E h => ?_) (fun f cdv A outer s H vs Q E hr h => ?_)
  · obtain ⟨n, rfl, _⟩ := h
    rfl
  · obtain ⟨n, rfl, n5, k⟩ := h
    refine ⟨_, pss_cons (ps_set (i := 1) scOrders.nd rfl (Or.inl rfl) (pe_lst (pa_cons (pe_tup pa_nil) pa_nil)))
      (pss_cons (ps_for PassesOwn.never rfl (pi_range1 rfl B.range (pa_cons (pv 0) pa_nil)) (pg_name (i := 2) scOrders.nd rfl (.inl rfl))
        (pss_cons (ps_set (i := 3) scOrders.nd rfl (Or.inl rfl) (pe_lst pa_nil))
        (pss_cons (ps_for PassesOwn.never rfl (pi_list (pv 1)) (pg_name (i := 4) scOrders.nd rfl (.inr rfl))
          (pss_one (ps_set (i := 3) scOrders.nd rfl (Or.inl rfl) (pe_op op_cat (pv 3)
            (pe_lc (own := [("entry", 5)]) (g := gName 5) (tt := tTest (tOp (rIn K true) (tVar 5) (tVar 4))) (te := tOp (rCatA K) (tVar 4) (tTup (tCons (tVar 5) tNil))) (by rfl) scOrders.nd (pi_range1 rfl B.range (pa_cons (pv 0) pa_nil))
              (blkOk_by (own := [("entry", 5)]) (N := ["count", "rows", "k", "longer", "row", "entry"]) (sc := defScope sOrders) (by decide +kernel))
              (fun _ _ _ _ _ => pg_name (i := 5) scOrders.nd rfl (Or.inl rfl)) (fun _ _ _ _ _ => pts_one (pt_cmpR op_notIn_seq (pv 5) (pv 4) (by rfl))) (fun _ _ _ _ _ => pe_op op_catA (pv 4) (pe_tup (pa_cons (pv 5) pa_nil))))))))
        (pss_one (ps_set (i := 1) scOrders.nd rfl (Or.inl rfl) (pv 3))))))
      (pss_one (ps_ret (pv 1)))), ?_⟩
    refine ⟨(by show 0 ≤ sizeLine; decide), fun p0 n0 => ?_⟩
    have s0 := same_new (o := .tup []) n0
    refine ⟨(by show 1 ≤ sizeLine; decide), fun r0 nr0 => ?_⟩
    have sr := same_new (o := .lst [.ref p0]) nr0
    have hr0 : upd (upd H p0 (.tup [])) r0 (.lst [.ref p0]) r0 = some (.lst [.ref p0]) := upd_same
    have t0 : TsL (upd (upd H p0 (.tup [])) r0 (.lst [.ref p0])) [.ref p0] (ordO n 0) := TsL.one (r := []) (sr.at upd_same)
    have s01 := s0.trans sr
    generalize upd (upd H p0 (.tup [])) r0 (.lst [.ref p0]) = H1 at hr0 t0 s01 ⊢
    refine ⟨_, rfl, n, rfl, by omega, by omega, ?_⟩
    refine for_range (lo := 0) (n := ((n : Nat) : Int).toNat) (fun i σ G => ∃ (ra : Addr) (xs : List V) (u2 u3 u4 : Option V), σ = [some (.int n), some (.ref ra), u2, u3, u4, none] ∧ Same H G ∧ G ra = some (.lst xs) ∧ TsL G xs (ordO n i))
      ⟨r0, _, none, none, none, rfl, s01, hr0, t0⟩ ?_ ?_
    · rintro i σ G hi ⟨ra, xs, u2, u3, u4, rfl, sG, hra, tG⟩
      rw [Int.toNat_natCast] at hi
      have lnx : ((ordO n i).flatMap (nxO n)).length ≤ 24 := ordO_len ⟨n, n5⟩ ⟨i + 1, by omega⟩
      have xl := tG.1
      refine ⟨(by show 0 ≤ sizeLine; decide), fun lo nlo => ?_⟩
      have slo := same_new (o := .lst []) nlo
      refine ⟨_, rfl, ra, rfl, ⟨_, SqL.of (slo.at hra)⟩, for_it (walk_list (K := K) (a := ra) (xs := xs)) (fun j σ J => ∃ (la : Addr) (u4 : Option V), σ = [some (.int n), some (.ref ra), some (.int (0 + (i : Nat))), some (.ref la), u4, none] ∧ Same G J ∧ ∃ ws, J la = some (.lst ws) ∧ TsL J ws (((ordO n i).take j).flatMap (nxO n)))
        ⟨lo, u4, rfl, slo, [], upd_same, rfl, fun j x p h => absurd h (by simp)⟩ (fun j σ J _ ⟨_, _, _, sJ, _⟩ => SqL.of (sJ.at hra)) ?_ ?_⟩
      · rintro j y1 σ J0 J hj ⟨la, u4, rfl, sJ, ws, hla, tla⟩ ⟨rfl, hy1⟩
        have hr : (ordO n i)[j]? = some ((ordO n i)[j]'(by omega)) := List.getElem?_eq_getElem (by omega)
        obtain ⟨t, rfl, ht⟩ := tG.2 j y1 _ hy1 hr
        generalize (ordO n i)[j]'(by omega) = r at hr ht
        have rl := ordO_mem i r (List.mem_of_getElem? hr)
        have fl := flat_take (nxO n) (ordO n i) (j + 1)
        rw [flat_snoc (nxO n) hr, List.length_append] at fl
        have wl := tla.1
        have nl : (nxO n r).length ≤ n := by
          unfold nxO
          rw [List.length_map]
          exact Nat.le_trans (List.length_filter_le ..) (by rw [rng_len]; exact Nat.le_refl _)
        refine ⟨_, rfl, _, rfl, n, rfl, by omega, by omega, fun D1 nD1 => ?_⟩
        refine lc_it (walk_range (lo := 0) (n := ((n : Nat) : Int).toNat)) (fun m Hc => ∃ acc, Same J (Off D1 Hc) ∧ Hc D1 = some (.lst acc) ∧ TsL (Off D1 Hc) acc ((((rngI n).take m).filter fun e => !decide (e ∈ r)).map fun e => r ++ [e]))
          ⟨[], by rw [off_upd, off_none nD1]; exact Same.refl J, upd_same, rfl, fun j x p h => absurd h (by simp)⟩ (fun _ _ _ _ => trivial) ?_ ?_
        · rintro m y2 Hc0 Hc hm ⟨acc, s3, hD, tac⟩ ⟨rfl, rfl⟩
          rw [Int.toNat_natCast] at hm
          have s3F := s3.trans (off_sub D1 Hc)
          have al := tac.1
          have al2 := List.length_filter_le (fun e => !decide (e ∈ r)) ((rngI n).take m)
          rw [List.length_map] at al
          rw [List.length_take] at al2
          have e2 : ((rngI n).take (m + 1)).filter (fun e => !decide (e ∈ r)) = ((rngI n).take m).filter (fun e => !decide (e ∈ r)) ++ (if (m : Int) ∈ r then [] else [(m : Int)]) := by
            rw [List.take_add_one, rng_get hm, List.filter_append]
            congr 1
            show [(m : Int)].filter _ = _
            by_cases z : (m : Int) ∈ r
            · rw [if_pos z, List.filter_cons_of_neg (by rw [decide_eq_true z]; decide), List.filter_nil]
            · rw [if_neg z, List.filter_cons_of_pos (by rw [decide_eq_false z]; rfl), List.filter_nil]
          have htc := s3F.at (sJ.at ht)
          refine ⟨rfl, ?_⟩
          refine ⟨_, rfl, _, rfl, t, _, rfl, .inr (SqT.of htc), rfl, flat_ints r, _, rfl, ?_⟩
          have z0 : (0 : Int) + (m : Int) = m := Int.zero_add _
          rw [inV_ints]
          refine ite2 (fun hz => ?_) (fun hz => ?_)
          · have hz : (!decide ((0 : Int) + (m : Int) ∈ r)) = true := hz
            rw [z0] at hz
            have hz : (m : Int) ∉ r := fun e => by rw [decide_eq_true e] at hz; exact absurd hz (by decide)
            refine ⟨_, rfl, _, rfl, (by show 1 ≤ sizeLine; decide), fun t1 nt1 => ?_⟩
            have st1 := same_new (o := .tup [.int (0 + (m : Int))]) nt1
            have h1 : upd Hc t1 (.tup [.int (0 + (m : Int))]) t1 = some (.tup ([0 + (m : Int)].map V.int)) := upd_same
            have hD1 := st1.at hD
            refine catI_go (st1.at htc) h1 (by show r.length + 1 ≤ 1000; omega) (fun z G1 g1 hz1 hz2 => ?_)
            rw [z0] at hz1
            have zD : z ≠ D1 := fun e => by
              rcases hz2 with h | h | h
              · rw [e, hD1] at h
                cases h
              · have := st1.at htc
                rw [← h, e, hD1] at this
                cases this
              · have q := h.symm.trans e
                rw [q, hD] at nt1
                cases nt1
            refine ⟨acc, g1.at hD1, Nat.lt_of_le_of_lt (show acc.length ≤ 24 by omega) (by decide), acc ++ [.ref z], ?_, upd_same, ?_⟩
            · rw [off_upd]
              exact s3.trans (off_mono (st1.trans g1))
            · rw [off_upd, e2, if_neg hz, List.map_append]
              exact (tac.same (off_mono (st1.trans g1))).app (TsL.one (by rw [off_ne zD]; exact hz1))
          · have hz : ¬ (!decide ((0 : Int) + (m : Int) ∈ r)) = true := hz
            rw [z0] at hz
            have hz : (m : Int) ∈ r := Classical.byContradiction fun z => hz (by rw [decide_eq_false z]; rfl)
            rw [e2, if_pos hz, List.append_nil]
            exact ⟨acc, s3, hD, tac⟩
        rintro J1 ⟨acc, t3, hD1, tac⟩
        rw [Int.toNat_natCast, show (rngI n).take n = rngI n by rw [← rng_len n, rng_len]; exact List.take_of_length_le (by rw [rng_len]; exact Nat.le_refl _)] at tac
        replace tac : TsL (Off D1 J1) acc (nxO n r) := tac
        have sF := t3.trans (off_sub D1 J1)
        have tac := tac.same (off_sub D1 J1)
        have al := tac.1
        refine ⟨la, D1, ws, acc, rfl, rfl, sF.at hla, hD1, ?_, fun l2 nl2 => ?_⟩
        · exact Nat.le_trans (show ws.length + acc.length ≤ 24 by omega) (by decide)
        have sl2 := same_new (o := .lst (ws ++ acc)) nl2
        refine ⟨l2, _, rfl, (sJ.trans sF).trans sl2, ws ++ acc, upd_same, ?_⟩
        rw [flat_snoc (nxO n) hr]
        exact ((tla.same sF).app tac).same sl2
      · rintro σ J ⟨la, u4, rfl, sJ, ws, hla, tla⟩
        rw [xl, List.take_length] at tla
        exact ⟨_, rfl, la, ws, _, _, _, rfl, sG.trans sJ, hla, tla⟩
    · rintro σ G ⟨ra, xs, u2, u3, u4, rfl, sG, hra, tG⟩
      rw [Int.toNat_natCast] at tG
      exact ⟨_, rfl, k ra xs G sG hra tG⟩
end
/-! ### what the small ones come to -/
def lnkB (ls : List Int) (a b : Int) : Bool := decide (lv ls a < lv ls b) || (decide (lv ls a = lv ls b) && decide (a < b))
def chnB (ls os : List Int) : Bool := (List.range (os.length - 1)).all fun i => lnkB ls (ov os i) (ov os (i + 1))
theorem lnkB_iff {ls : List Int} {a b : Int} : lnkB ls a b = true ↔ lnk ls a b := by
  unfold lnkB lnk
  simp
theorem chnB_iff {ls os : List Int} : chnB ls os = true ↔ Chn ls os os.length := by
  unfold chnB Chn
  rw [List.all_eq_true]
  constructor
  · intro h i hi
    exact lnkB_iff.mp (h i (List.mem_range.mpr (by omega)))
  · intro h i hi
    have := List.mem_range.mp hi
    exact lnkB_iff.mpr (h i (by omega))
def leastC (os : List Int) : List Int := (rngI os.length).map fun i => st os (os.idxOf i)
def okO (n : Nat) (os : List Int) : Bool := decide (os.length = n) && (os.all fun v => decide (0 ≤ v) && decide (v < (n : Int))) && decide os.Nodup && decide ((leastC os).length = n) && ((List.range n).all fun j => decide (lv (leastC os) (ov os j) = st os j))
theorem all_okO : ∀ n : Fin 5, (ordO n.1 n.1).all (okO n.1) = true := by decide +kernel
theorem all_cnt : ∀ n : Fin 5, ∀ total : Fin 12, ((ordO n.1 n.1).all fun os => decide (robC (leastC os) (total.1 : Int) = (((partedL (total.1 : Int) n.1).countP fun ls => chnB ls os : Nat) : Int))) = true := by decide +kernel
theorem ord_small {n : Nat} (h : n < 5) {os : List Int} (ho : os ∈ ordO n n) : IsOrd os ∧ os.length = n ∧ Lst (leastC os) os := by
  have z := List.all_eq_true.mp (all_okO ⟨n, h⟩) os ho
  unfold okO at z
  simp only [Bool.and_eq_true, decide_eq_true_eq, List.all_eq_true] at z
  obtain ⟨⟨⟨⟨z1, z2⟩, z3⟩, z4⟩, z5⟩ := z
  refine ⟨⟨fun v hv => ?_, z3⟩, z1, ?_, fun j hj => z5 j (List.mem_range.mpr (by omega))⟩
  · have := z2 v hv
    rw [z1]
    exact this
  · rw [z4, z1]
theorem cnt_small {n total : Nat} (h : n < 5) (ht : total < 12) {os : List Int} (ho : os ∈ ordO n n) : robC (leastC os) (total : Int) = (((partedL (total : Int) n).countP fun ls => chnB ls os : Nat) : Int) :=
  of_decide_eq_true (List.all_eq_true.mp (all_cnt ⟨n, h⟩ ⟨total, ht⟩) os ho)
theorem lst_uniq {a b os : List Int} (io : IsOrd os) (ha : Lst a os) (hb : Lst b os) : a = b := by
  refine List.ext_getElem? fun i => ?_
  by_cases z : i < os.length
  · obtain ⟨j, hj, ej⟩ := at_ord (ls := a) io ha.1 (i := i) (by rw [ha.1]; exact z)
    have h1 := ha.2 j hj
    have h2 := hb.2 j hj
    rw [ej] at h1 h2
    have g : ∀ (c : List Int), c.length = os.length → c[i]? = some (lv c (i : Int)) := fun c hc => by
      unfold lv
      rw [Int.toNat_natCast, List.getD_eq_getElem?_getD, List.getElem?_eq_getElem (by omega)]
      rfl
    rw [g a ha.1, g b hb.1, h1, h2]
  · rw [List.getElem?_eq_none (by rw [ha.1]; omega), List.getElem?_eq_none (by rw [hb.1]; omega)]
theorem bad_twice {n : Int} {x : Int} : ∀ {os pre : List Int} {i : Nat}, (∀ v ∈ os, 0 ≤ v ∧ v < n ∧ v ∉ pre) → os.Nodup → x ∈ pre ++ os → badOrd n pre i (intsD (os ++ [x])) = some (i + os.length)
  | [], pre, i, _, _, hx => by
    rw [List.append_nil] at hx
    show (if 0 ≤ x ∧ x < n ∧ x ∉ pre then _ else some i) = some i
    exact if_neg fun z => z.2.2 hx
  | v :: r, pre, i, h, nd, hx => by
    obtain ⟨n1, n2⟩ := List.nodup_cons.mp nd
    show (if 0 ≤ v ∧ v < n ∧ v ∉ pre then badOrd n (pre ++ [v]) (i + 1) (intsD (r ++ [x])) else some i) = _
    rw [if_pos (h v (by simp)), bad_twice (fun u hu => ?_) n2 (by rw [List.append_assoc]; exact hx)]
    · rw [List.length_cons]
      congr 1
      omega
    · obtain ⟨a, b, c⟩ := h u (List.mem_cons_of_mem _ hu)
      refine ⟨a, b, fun z => ?_⟩
      rcases List.mem_append.mp z with z | z
      · exact c z
      · rw [List.mem_singleton.mp z] at hu
        exact n1 hu
theorem place_twice {os : List Int} {x : Int} (h : ∀ v ∈ os, 0 ≤ v ∧ v ≤ (os.length : Int)) (nd : os.Nodup) (hx : x ∈ os) : orderPlace (.tuple (intsD (os ++ [x]))) = some (os.length : Int) := by
  have l : (intsD (os ++ [x])).length = os.length + 1 := by rw [ints_len, List.length_append]; rfl
  show (match badOrd (intsD (os ++ [x])).length [] 0 (intsD (os ++ [x])) with | some i => some (i : Int) | none => none) = _
  rw [bad_twice (fun v hv => ⟨(h v hv).1, by rw [l]; have := (h v hv).2; push_cast; omega, by simp⟩) nd (by simpa using hx), Nat.zero_add]
end Vk
namespace Vk
open PySem PySem.Spec PyProof.Rows L2 GxR
theorem passE0 {X : Cx} : Passes (L2.CX X.prog X.w) X E0 := fun _ _ _ _ _ _ _ ⟨_, _, _, _, _, _, _, _, _, _, _, _, h⟩ => False.elim h
theorem sh_two {s : Str} {i : Int} (h : PyData.strOk s = true) : SeqAt.shaped (.tuple [.str s, .int i]) = true := by
  simp [SeqAt.shaped, PyData.canLay0, PyData.canLayAll0, PyData.depth, PyData.depthAll, h]
mutual
theorem dp_offT {K : PySem.W.Frag} {H : Hp} {cd : Addr} {kvs : List (List Key × V)} (h : H cd = some (.dT kvs)) : ∀ {v : V} {d : PyData}, Dp K H v d → Dp K (Off cd H) v d
  | _, _, .non => .non
  | _, _, .bl b => .bl b
  | _, _, .int i => .int i
  | _, _, .str x => .str x
  | _, _, .lst (a := a) q r => .lst (by
      rcases q with (q | ⟨o, q⟩) | q
      · refine .inl (.inl ?_)
        rw [off_ne (fun e => by rw [e, h] at q; cases q)]
        exact q
      · refine .inl (.inr ⟨o, ?_⟩)
        rw [off_ne (fun e => by rw [e, h] at q; cases q)]
        exact q
      · exact .inr q) (dps_offT h r)
  | _, _, .tup (a := a) q r => .tup (by
      rcases q with (q | ⟨o, q⟩) | q
      · refine .inl (.inl ?_)
        rw [off_ne (fun e => by rw [e, h] at q; cases q)]
        exact q
      · refine .inl (.inr ⟨o, ?_⟩)
        rw [off_ne (fun e => by rw [e, h] at q; cases q)]
        exact q
      · exact .inr q) (dps_offT h r)
theorem dps_offT {K : PySem.W.Frag} {H : Hp} {cd : Addr} {kvs : List (List Key × V)} (h : H cd = some (.dT kvs)) : ∀ {vs : List V} {ds : List PyData}, DpAll K H vs ds → DpAll K (Off cd H) vs ds
  | _, _, .nil => .nil
  | _, _, .cons a r => .cons (dp_offT h a) (dps_offT h r)
end
theorem parted_len {total : Int} (h0 : 0 ≤ total) {n : Nat} {l : List Int} (h : l ∈ partedL total n) : l.length = n := by
  obtain ⟨p, hp, rfl⟩ := List.mem_map.mp h
  exact (partP_mem h0 n p (List.mem_filter.mp hp).1).2.2
theorem parted_cnt {total n : Nat} (t12 : total < 12) (n5 : n < 5) : (partedL (total : Int) n).length ≤ 400 := by
  unfold partedL
  rw [List.length_map]
  exact Nat.le_trans (List.length_filter_le ..) (partP_len ⟨total, t12⟩ ⟨n, n5⟩)
/-- the key of a tuple of integers -/
def keyO (os : List Int) : List Key := os.map Sum.inl
theorem keyO_V (os : List Int) : (keyO os).map kV = os.map V.int := by
  unfold keyO
  rw [List.map_map]
  rfl
theorem keyO_inj {a b : List Int} (h : keyO a = keyO b) : a = b := (List.map_inj_right (fun x y e => Sum.inl.inj e)).mp h
theorem putK_len {κ : Type} [DecidableEq κ] (kvs : List (κ × V)) (k : κ) (v : V) : (putK kvs k v).length ≤ kvs.length + 1 := by
  unfold putK
  split
  · rw [List.length_map]
    omega
  · rw [List.length_append]
    exact Nat.le_refl _
/-- the counts so far -/
def Cnts (kvs : List (List Key × V)) (n : Nat) (ls : List (List Int)) : Prop := ∀ os : List Int, IsOrd os → os.length = n → (valV kvs (keyO os)).getD (.int 0) = .int (((ls.countP fun l => chnB l os : Nat)) : Int)
theorem Cnts.next {kvs : List (List Key × V)} {n : Nat} {ls : List (List Int)} {l os : List Int} (h : Cnts kvs n ls) (io : IsOrd os) (lo : os.length = n) (c : Chn l os os.length) : Cnts (putK kvs (keyO os) (.int ((((ls.countP fun l => chnB l os : Nat)) : Int) + 1))) n (ls ++ [l]) := by
  intro us iu lu
  rw [valV_put, List.countP_append]
  by_cases e : us = os
  · subst e
    rw [if_pos rfl, List.countP_singleton, if_pos (chnB_iff.mpr c)]
    show V.int _ = V.int _
    push_cast
    rfl
  · rw [if_neg (fun z => e (keyO_inj z)), h us iu lu, List.countP_singleton, if_neg (fun z => e (ord_uniq iu io (by omega) (chnB_iff.mp z) c))]
    rfl
section
variable {P : Program} {w : World} {K : PySem.W.Frag} {mg : Str → Option Value} {base : Heap}
def spTwice (K : PySem.W.Frag) : Sp := fun vs H Q _ => ∃ (v : V) (os : List Int), vs = [v] ∧ Dp K H v (.tuple (intsD os)) ∧ os.Nodup ∧ 1 ≤ os.length ∧ os.length ≤ 39 ∧ (∀ v ∈ os, 0 ≤ v ∧ v ≤ (os.length : Int)) ∧ ∀ H', Same H H' → Q (.bl true) H'
theorem scTwice : FnScope ["order", "caught", "e"] ["order"] (defScope sTwice) := ⟨rfl, rfl, rfl, by decide +kernel, rfl, by decide +kernel, by decide +kernel⟩
theorem ok_twice {C : Addr} (D : Df K mg "_law_twice_right" sTwice ["order"]) (B : Blt mg) (N : Kn K mg C 6) (RB : Cl P w K mg base (L2.CX P w) 5 "count_robin" ["order", "total"] (spRobin K C)) (KI : Cl P w K mg base CX0 1 "_law_kind" ["caught"] (spKind C 6)) : Cl P w K mg base CX0 6 "_law_twice_right" ["order"] (spTwice K) := by
  refine cl0 D scTwice (fun vs H Q E h => ?_) (fun f cdv A outer s H vs Q E hr h => ?_)
  · obtain ⟨v, os, rfl, _⟩ := h
    rfl
  · obtain ⟨v, os, rfl, hd, nd, l1, l39, rg, k⟩ := h
    obtain ⟨S, mS, _, exm⟩ := N.se
    obtain ⟨fC, fdC, mC, kpC, bC, FC⟩ := RB.ex
    refine ⟨_, pss_cons (ps_set (i := 1) scTwice.nd rfl (Or.inl rfl) pe_non)
      (pss_cons (ps_try_keep (i := 2) (c := .ref S) (tb := fun W => tDrop (tCallS (spRobin K C) (WE W) (tCons (tOp (rCatA K) (tVar 0) (tSl (rSlA K) (tVar 0) tNoPart (tPart (tC (.int 1))))) (tCons (tC (.int 9)) tNil)))) (ts := fun _ _ _ => tAsg (tVar 2) (gName 1)) rfl rfl rfl scTwice.nd rfl rfl rfl mS (by decide)
          (fun W pn xe tk _ => pss_one (ps_expr (by exact (pe_callS FC hr rfl mC kpC bC (fun σ => passAt tk σ) (by exact (pa_cons (pe_op op_catA (pv 0) (pe_slice sl_tupA (pv 0) po_none (po_some pe_int))) (pa_cons pe_int pa_nil)))))))
          (fun a oe cls d pn _ _ => pss_one (ps_set (i := 1) scTwice.nd rfl (Or.inl rfl) (by exact (pv 2)))))
      (pss_one (ps_ret (pe_and (pe_cmpR op_notN (pv 1) pe_non (nomark _)) (pe_one (pe_cmpR (op_eqD hr.units) (pc KI hr (by decide) (pa_cons (pv 1) pa_nil)) (pe_tup (pa_cons pe_str (pa_cons (pe_callB call_len_seq (by rfl) B.len PySem.boot_len (pa_cons (pv 0) pa_nil)) pa_nil))) (nomark _))))))), ?_⟩
    have nn := nd
    obtain ⟨x, r, eo⟩ : ∃ x r, os = x :: r := by
      cases os with
      | nil => exact absurd l1 (by decide)
      | cons x r => exact ⟨x, r, rfl⟩
    have hx : x ∈ os := by rw [eo]; simp
    have op := place_twice rg nd hx
    obtain ⟨pv_, vs', rfl, qv, rv⟩ := dp_tuple hd
    have ev := ints_dps rv
    subst ev
    refine ⟨_, rfl, _, rfl, ?_⟩
    dsimp only [tNoPart]
    refine ⟨_, rfl, slice_go0 hd (fun z1 H1 s1 d1 => ?_)⟩
    have e1 : ((intsD os).drop 0).take (HT.sIx (intsD os).length (intsD os).length (some ((1 : Nat) : Int)) - 0) = intsD [x] := by
      rw [HT.sIx_nat, ints_len, List.drop_zero, Nat.sub_zero, show min 1 os.length = 1 by omega, eo]
      rfl
    replace d1 : Dp K H1 z1 (.tuple (((intsD os).drop 0).take (HT.sIx (intsD os).length (intsD os).length (some ((1 : Nat) : Int)) - 0))) := d1
    rw [e1] at d1
    refine cat_go0 (dp_same s1 hd) d1 (by rw [ints_len, ints_len]; show _ + 1 ≤ 1000; omega) (fun z2 H2 s2 d2 => ?_)
    rw [ints_app] at d2
    have s12 := s1.trans s2
    refine ⟨z2, .tuple (intsD (os ++ [x])), 9, rfl, d2, ?_, by decide, by decide, fun us ls e iu _ => ?_, fun p2 e dx H3 s3 hx2 => ?_⟩
    · show (intsD (os ++ [x])).length ≤ 900
      rw [ints_len, List.length_append]
      show _ + 1 ≤ 900
      omega
    · have e2 := ints_inj (PyData.tuple.inj e)
      rw [e2] at op
      exact absurd (op.symm.trans (order_none iu)) (fun z => nomatch z)
    · rw [op] at e
      cases e
      refine ⟨exm, fun a na => ⟨_, rfl, fun na2 => ?_⟩⟩
      have s123 := (s12.trans s3).trans (same_new (o := Xco a (.ref C) (some dx)) na2)
      have hx3 : upd H3 a (Xco a (.ref C) (some dx)) dx = some (.xd [(("place" : Str), .int (os.length : Int))]) := by
        rw [upd_ne (ne_of_none hx2 na2)]
        exact hx2
      refine ⟨_, rfl, rfl, _, rfl, iteT ?_⟩
      refine ⟨_, rfl, a, dx, _, rfl, upd_same, hx3, fun t H4 s4 ht => ?_⟩
      have s14 := s123.trans s4
      refine ⟨_, rfl, pv_, _, rfl, .inr (same_seqT s14 qv), ?_⟩
      refine ⟨(by show 2 ≤ sizeLine; decide), fun u nu => ?_⟩
      have su := same_new (o := .tup [.str ("order" : Str), .int (((os.map V.int).length : Nat) : Int)]) nu
      have d1' : Dp K (upd H4 u (.tup [.str ("order" : Str), .int (((os.map V.int).length : Nat) : Int)])) (.ref t) (.tuple [.str ("order" : Str), .int (os.length : Int)]) := .tup (SqT.of (su.at ht)) (.cons (.str _) (.cons (.int _) .nil))
      have d2' : Dp K (upd H4 u (.tup [.str ("order" : Str), .int (((os.map V.int).length : Nat) : Int)])) (.ref u) (.tuple [.str ("order" : Str), .int (os.length : Int)]) := .tup (SqT.of upd_same) (.cons (.str _) (.cons (by rw [List.length_map]; exact .int _) .nil))
      have sh := sh_two (s := "order") (i := (os.length : Int)) (by decide +kernel)
      refine ⟨_, _, d1', d2', sh, sh, ?_⟩
      show Q (.bl (PyData.eqv _ _)) _
      rw [SeqAt.eqv_refl _ (SeqAt.canLay_of_shaped sh)]
      exact k _ (s14.trans su)
def spLaw (K : PySem.W.Frag) : Sp := fun vs H Q _ => ∃ (a : Addr) (ns : List Int), vs = [.ref a] ∧ SqL K H a (ns.map V.int) ∧ ns.length ≤ 63 ∧ ∀ H', Q (.bl true) H'
abbrev NL : List Str := ["script", "store", "count", "total", "counts", "lengths", "order", "found", "left", "rest", "due", "place", "length", "k"]
theorem scLaw : FnScope ["script", "store", "count", "total", "counts", "lengths", "order", "found", "left", "rest", "due", "place", "length", "k"] ["script"] (defScope sLaw) := ⟨rfl, rfl, rfl, by decide +kernel, rfl, by decide +kernel, by decide +kernel⟩
theorem ok_law {f C : Addr} {fd : FuncData} (F : Fun K "law" "law" sLaw f fd) (B : Blt mg) (sm : mg "sum" = none) (mn : mg "min" = none) (so : mg "sorted" = none) (ST : Cl P w K mg base CX0 1 "_law_store" ["script"] (spStore K)) (PK : Cl P w K mg base CX0 2 "_law_pick" ["store", "count"] spPick)
    (PA : Cl P w K mg base CX0 1 "_law_parted" ["total", "count"] (spParted K)) (OR : Cl P w K mg base CX0 1 "_law_orders" ["count"] spOrders) (PT : Cl P w K mg base CX0 1 "_law_partitions" ["rest", "most"] spParts) (TW : Cl P w K mg base CX0 6 "_law_twice_right" ["order"] (spTwice K)) (IL : Cl P w K mg base CX0 1 "_law_is_int" ["value", "least"] (spInteger K))
    (LE : Cl P w K mg base (L2.CX P w) 4 "least_lengths" ["order"] (spLeast K C)) (RB : Cl P w K mg base (L2.CX P w) 5 "count_robin" ["order", "total"] (spRobin K C)) :
    FnOk P w K mg base CX0 7 f fd ["script"] (spLaw K) := by
  refine F.ok scLaw (fun vs H Q E h => ?_) (fun cdv A outer s H vs Q E hr h => ?_)
  · obtain ⟨a, ns, rfl, _⟩ := h
    rfl
  · obtain ⟨a, ns, rfl, hS, hlen, k⟩ := h
    obtain ⟨fC, fdC, mC, kpC, bC, FC⟩ := LE.ex
    obtain ⟨fR, fdR, mR, kpR, bR, FR⟩ := RB.ex
    refine ⟨_, pss_cons (ps_set (i := 1) scLaw.nd rfl (Or.inr rfl) (pc ST hr (by decide) (pa_cons (pv 0) pa_nil)))
      (pss_cons (ps_set (i := 2) scLaw.nd rfl (Or.inl rfl) (pc PK hr (by decide) (pa_cons (pv 1) (pa_cons pe_int pa_nil))))
      (pss_cons (ps_set (i := 3) scLaw.nd rfl (Or.inl rfl) (pe_op op_sub (pe_op op_add (pv 2) (pc PK hr (by decide) (pa_cons (pv 1) (pa_cons (pe_op op_sub pe_int (pv 2)) pa_nil)))) (pe_callTy call_int1 (by rfl) B.int (by decide +kernel) (pa_cons (pe_and (pe_cmpR op_gt (pv 2) pe_int (nomark _)) (pe_one (pe_cmpR op_eq (pc PK hr (by decide) (pa_cons (pv 1) (pa_cons pe_int pa_nil))) pe_int (nomark _)))) pa_nil))))
      (pss_cons (ps_set (i := 4) scLaw.nd rfl (Or.inl rfl) pe_dnewT)
      (pss_cons (ps_for PassesOwn.never rfl (pi_list (pc PA hr (by decide) (pa_cons (pv 3) (pa_cons (pv 2) pa_nil)))) (pg_name (i := 5) scLaw.nd rfl (.inr rfl))
        (pss_cons (ps_set (i := 6) scLaw.nd rfl (Or.inl rfl) (pe_callTy call_tuple_of (by rfl) B.tuple (by decide +kernel) (pa_cons
          (pe_lc (own := [("length", 12), ("place", 11)]) (g := gTup K 2 (gCons (gName 12) (gCons (gName 11) gNil))) (tt := tYes) (te := tVar 11) (by rfl) scLaw.nd (pi_list (pe_callB cr_sortedPO (by rfl) so (by decide +kernel) (pa_cons
              (pe_lc (own := [("k", 13)]) (g := gName 13) (tt := tYes) (te := tTup (tCons (tOp (rIxT K) (tVar 5) (tVar 13)) (tCons (tVar 13) tNil))) (by rfl) scLaw.nd (pi_range1 rfl B.range (pa_cons (pv 2) pa_nil))
                (blkOk_by (own := [("k", 13)]) (N := NL) (sc := defScope sLaw) (by decide +kernel))
                (fun _ _ _ _ _ => pg_name (i := 13) scLaw.nd rfl (Or.inl rfl)) (fun _ _ _ _ _ => pts_nil) (fun _ _ _ _ _ => pe_tup (pa_cons (pe_ix ix_tup (pv 5) (pv 13) (fun _ _ => rfl)) (pa_cons (pv 13) pa_nil)))) pa_nil)))
            (blkOk_by (own := [("length", 12), ("place", 11)]) (N := NL) (sc := defScope sLaw) (by decide +kernel))
            (fun _ _ _ _ _ => pg_tup rfl (pgs_cons (pg_name (i := 12) scLaw.nd rfl (Or.inl rfl)) (pgs_cons (pg_name (i := 11) scLaw.nd rfl (Or.inl rfl)) pgs_nil))) (fun _ _ _ _ _ => pts_nil) (fun _ _ _ _ _ => pv 11)) pa_nil)))
        (pss_one (ps_asg (pe_op op_add (pe_dget2 (hu_of hr) (pv 4) (pv 6) pe_int ⟨rfl, rfl, rfl, rfl⟩) pe_int) (pg_sub (pv 4) (pv 6) (set_dict (hu_of hr)))))))
      (pss_cons (ps_for PassesOwn.never rfl (pi_list (pc OR hr (by decide) (pa_cons (pv 2) pa_nil))) (pg_name (i := 6) scLaw.nd rfl (.inl rfl))
        (pss_cons (ps_set (i := 7) scLaw.nd rfl (Or.inl rfl) (pe_call (E := E0) FR (hr.mono (by decide)) rfl mR kpR bR .nil passE0 (pa_cons (pv 6) (pa_cons (pv 3) pa_nil))))
        (pss_one (ps_if (PW.pt (pw_or (pt_not (pt_val (pc IL hr (by decide) (pa_cons (pv 7) (pa_cons pe_int pa_nil))))) (pw_or1 (pt_cmpR op_ne (pv 7) (pe_dget2 (hu_of hr) (pv 4) (pv 6) pe_int ⟨rfl, rfl, rfl, rfl⟩) (nomark _))))) (pss_one (ps_ret pe_bl)) pss_nil))))
      (pss_cons (ps_set (i := 8) scLaw.nd rfl (Or.inr rfl) (pe_listRg rfl rfl B.list (prg_1 rfl B.range (pc PK hr (by decide) (pa_cons (pv 1) (pa_cons pe_int pa_nil))))))
      (pss_cons (ps_set (i := 6) scLaw.nd rfl (Or.inl rfl) (pe_callTy call_tuple_of (by rfl) B.tuple (by decide +kernel) (pa_cons
        (pe_lc (own := [("k", 13)]) (g := gName 13) (tt := tYes) (te := tBM K "list" rPopAt (tVar 8) (tCons (tCal spPick (tCons (tVar 1) (tCons (tCB (rLenS K) (tCons (tVar 8) tNil)) tNil))) tNil)) (by rfl) scLaw.nd (pi_range1 rfl B.range (pa_cons (pe_callB call_len_seq (by rfl) B.len PySem.boot_len (pa_cons (pv 8) pa_nil)) pa_nil))
          (blkOk_by (own := [("k", 13)]) (N := NL) (sc := defScope sLaw) (by decide +kernel))
          (fun _ _ _ _ _ => pg_name (i := 13) scLaw.nd rfl (Or.inl rfl)) (fun _ _ _ _ _ => pts_nil)
          (fun _ _ _ _ _ => pe_bm PySem.F.plainAttrs_list PySem.F.slot_list_pop PySem.F.type_list_pop mt_popAt (pv 8) (pa_cons (pc PK hr (by decide) (pa_cons (pv 1) (pa_cons (pe_callB call_len_seq (by rfl) B.len PySem.boot_len (pa_cons (pv 8) pa_nil)) pa_nil))) pa_nil))) pa_nil)))
      (pss_cons (ps_set (i := 3) scLaw.nd rfl (Or.inl rfl) (pe_ix ix_list (pe_lst (pa_cons (pc PK hr (by decide) (pa_cons (pv 1) (pa_cons pe_int pa_nil))) (pa_cons (pe_callB (call_min2 rfl) (by rfl) mn (by decide +kernel) (pa_cons pe_int (pa_cons (pe_op op_add (pe_callB (cr_sumT rfl) (by rfl) sm (by decide +kernel) (pa_cons (pe_call (E := E0) FC (hr.mono (by decide)) rfl mC kpC bC .nil passE0 (pa_cons (pv 6) pa_nil)) pa_nil)) (pc PK hr (by decide) (pa_cons (pv 1) (pa_cons pe_int pa_nil)))) pa_nil))) pa_nil))) (pc PK hr (by decide) (pa_cons (pv 1) (pa_cons pe_int pa_nil))) (fun _ _ => rfl)))
      (pss_cons (ps_set (i := 9) scLaw.nd rfl (Or.inl rfl) (pe_op op_sub (pv 3) (pe_callB (cr_sumT rfl) (by rfl) sm (by decide +kernel) (pa_cons (pe_call (E := E0) FC (hr.mono (by decide)) rfl mC kpC bC .nil passE0 (pa_cons (pv 6) pa_nil)) pa_nil))))
      (pss_cons (ps_set (i := 10) scLaw.nd rfl (Or.inl rfl) pe_int)
      (pss_cons (ps_if (pt_cmpR op_ge (pv 9) pe_int (nomark _)) (pss_one (ps_set (i := 10) scLaw.nd rfl (Or.inl rfl) (pc PT hr (by decide) (pa_cons (pv 9) (pa_cons (pe_callB call_len_seq (by rfl) B.len PySem.boot_len (pa_cons (pv 6) pa_nil)) pa_nil))))) pss_nil)
      (pss_one (ps_ret (pe_and (pe_cmpR op_eq (pe_call (E := E0) FR (hr.mono (by decide)) rfl mR kpR bR .nil passE0 (pa_cons (pv 6) (pa_cons (pv 3) pa_nil))) (pv 10) (nomark _))
        (pe_one (pe_or (pe_cmpR (op_eqNilT (Nat.lt_of_succ_lt (hu_of hr))) (pv 6) (pe_tup pa_nil) (nomark _)) (pe_one (pc TW hr (by decide) (pa_cons (pe_slice sl_tupA (pv 6) (po_some (pe_un un_neg pe_int)) po_none) pa_nil))))))))))))))))))), ?_⟩
    refine ⟨_, rfl, a, ns, rfl, hS, hlen, fun st_ sc H1 s1 nst S1 => ?_⟩
    refine ⟨_, rfl, st_, sc, 5, _, rfl, by decide, by decide, S1, by omega, fun r H2 r0 r5 S2 K2 => ?_⟩
    obtain ⟨n, rfl⟩ := Int.eq_ofNat_of_zero_le r0
    have n5 : n < 5 := by omega
    -- total
    apply cutR (α := L2.St → Hp → Prop) (F := fun R => ∀ (t : Nat) (G : Hp), t < 12 → Sto sc st_ 10 G → R [some (.ref a), some (.ref st_), some (.int n), some (.int t), none, none, none, none, none, none, none, none, none, none] G)
    · intro cont
      refine ⟨_, rfl, _, rfl, _, rfl, _, _, rfl, rfl, st_, sc, 12 - (n : Int), _, rfl, by omega, by omega, S2, by omega, fun r2 H3 r20 r21 S3 K3 => ?_⟩
      refine ⟨_, _, rfl, rfl, _, rfl, _, _, rfl, rfl, _, rfl, ite2 (fun hz => ?_) (fun hz => ?_)⟩
      · have hz : 0 < (n : Int) := of_decide_eq_true hz
        refine ⟨_, rfl, st_, sc, 5, _, rfl, by decide, by decide, S3, by omega, fun r3 H4 r30 r31 S4 K4 => ?_⟩
        refine ⟨rfl, .inr ⟨_, rfl, _, _, rfl, rfl, ?_⟩⟩
        obtain ⟨t, et⟩ := Int.eq_ofNat_of_zero_le (show 0 ≤ (n : Int) + r2 - (if decide (V.int r3 = V.int 0) = true then 1 else 0) by split <;> omega)
        have z := cont t H4 (by have : (n : Int) + r2 - (if decide (V.int r3 = V.int 0) = true then 1 else 0) ≤ (n : Int) + r2 := by split <;> omega
                                omega) (S4.more (by omega))
        rw [← et] at z
        dsimp only [gName]
        exact z
      · refine .inr ⟨_, rfl, _, _, rfl, rfl, ?_⟩
        obtain ⟨t, et⟩ := Int.eq_ofNat_of_zero_le (show 0 ≤ (n : Int) + r2 - (if false = true then 1 else 0) by rw [if_neg (by decide)]; omega)
        have z := cont t H3 (by rw [if_neg (by decide)] at et; omega) (S3.more (by omega))
        rw [← et] at z
        dsimp only [gName]
        exact z
    intro total G t12 SG
    -- counts
    refine fun cd ncd => ?_
    have scd := same_new (o := .dT []) ncd
    have cst := SG.ne ncd
    have csc := SG.ne2 ncd
    have hcd : upd G cd (.dT []) cd = some (.dT []) := upd_same
    have SG2 := SG.same scd
    generalize upd G cd (.dT []) = G2 at hcd SG2 ⊢
    -- the first loop
    refine ⟨_, rfl, _, rfl, total, n, rfl, t12, n5, fun lv_ G3 s3 dl => ?_⟩
    obtain ⟨l, xs, rfl, ql, rl⟩ := dp_lst0 dl
    have xl := dps_len rl
    rw [List.length_map] at xl
    have hcd3 := s3.at hcd
    have dlO := dp_offT hcd3 dl
    obtain ⟨l', xs', e', qlO, rlO⟩ := dp_lst0 dlO
    cases e'
    have pc4 := parted_cnt t12 n5
    have xl' := dps_len rlO
    rw [List.length_map] at xl'
    refine ⟨l, rfl, ⟨_, (off_sub cd G3).seq qlO⟩, for_it (walk_list (K := K) (a := l) (xs := xs')) (fun j σ J => ∃ (u5 u6 : Option V) (kvs : List (List Key × V)), σ = [some (.ref a), some (.ref st_), some (.int n), some (.int total), some (.ref cd), u5, u6, none, none, none, none, none, none, none] ∧
        Same (Off cd G3) (Off cd J) ∧ J cd = some (.dT kvs) ∧ kvs.length ≤ j ∧ Cnts kvs n ((partedL (total : Int) n).take j) ∧ Sto sc st_ 10 J)
      ⟨none, none, [], rfl, Same.refl _, hcd3, Nat.zero_le _, fun os _ _ => rfl, SG2.same s3⟩ (fun j σ J _ ⟨_, _, _, _, sJ, _⟩ => (sJ.trans (off_sub cd J)).seq qlO) ?_ ?_⟩
    · rintro j y1 σ J0 J hj ⟨u5, u6, kvs, rfl, sJ, hk, lk, ck, SJ⟩ ⟨rfl, hy1⟩
      obtain ⟨dd, hdd, ddd⟩ := dps_getV rlO hy1
      rw [List.getElem?_map] at hdd
      obtain ⟨ls, hls, rfl⟩ := Option.map_eq_some_iff.mp hdd
      have lln := parted_len (total := (total : Int)) (by omega) (List.mem_of_getElem? hls)
      have sJF := sJ.trans (off_sub cd J)
      obtain ⟨pl, zs, rfl, qp, rp⟩ := dp_tuple (dp_same sJF ddd)
      have ez := ints_dps rp
      subst ez
      -- order
      refine ⟨_, rfl, n, rfl, by omega, by omega, fun D1 nD1 => ?_⟩
      refine lc_it (walk_range (lo := 0) (n := ((n : Nat) : Int).toNat)) (fun m Hc => ∃ acc, Same J (Off D1 Hc) ∧ Hc D1 = some (.lst acc) ∧ PrL (Off D1 Hc) acc ((idxP ls).take m))
        ⟨[], by rw [off_upd, off_none nD1]; exact Same.refl J, upd_same, rfl, fun j x p h => absurd h (by simp)⟩ (fun _ _ _ _ => trivial) ?_ ?_
      · rintro m y2 Hc0 Hc hm ⟨acc, s4, hD, hP⟩ ⟨rfl, rfl⟩
        rw [Int.toNat_natCast] at hm
        have s4F := s4.trans (off_sub D1 Hc)
        have al : acc.length = m := by
          rw [hP.1, List.length_take, idx_len]
          omega
        have hx : ls[m]? = some (ls[m]'(by omega)) := List.getElem?_eq_getElem (by omega)
        generalize ls[m]'(by omega) = x at hx
        have hat : atI (ls.map V.int) ((0 : Int) + (m : Int)) = some (.int x) := by
          rw [Int.zero_add]
          refine atI_nat (j := m) ?_
          rw [List.getElem?_map, hx]
          rfl
        refine ⟨rfl, ?_⟩
        refine ⟨_, rfl, _, rfl, pl, _, _, _, rfl, rfl, same_seqT s4F qp, hat, _, rfl, (by show 2 ≤ sizeLine; decide), fun t nt => ?_⟩
        have st := same_new (o := .tup [.int x, .int (0 + (m : Int))]) nt
        have tD : t ≠ D1 := fun e => by rw [e, hD] at nt; cases nt
        refine ⟨acc, st.at hD, Nat.lt_of_le_of_lt (show acc.length ≤ 900 by omega) (by decide), acc ++ [.ref t], ?_, upd_same, ?_⟩
        · rw [off_upd]
          exact s4.trans (off_mono st)
        · rw [off_upd, idx_take hx]
          refine (hP.same (off_mono st)).snoc (p := (x, (m : Int))) ?_
          rw [off_ne tD, upd_same, Int.zero_add]
      rintro G4 ⟨acc, t3, hD1, hP⟩
      rw [Int.toNat_natCast, ← lln, show (idxP ls).take ls.length = idxP ls by rw [← idx_len (ls := ls)]; exact List.take_length] at hP
      have sF := t3.trans (off_sub D1 G4)
      have hP := hP.same (off_sub D1 G4)
      refine ⟨D1, acc, prK G4, rfl, SqL.of hD1, hP.all, fun ys p hs hb np => ?_⟩
      have g1 := same_new (o := .lst ys) np
      have hp : upd G4 p (.lst ys) p = some (.lst ys) := upd_same
      obtain ⟨o1, o2, o3⟩ := srt_ord (ls := ls) (ks := ys.map (prK G4)) (List.pairwise_map.mpr hs) (by rw [← hP.keys]; exact hb.perm.map _)
      have yl : ys.length = ls.length := by
        rw [hb.perm.length_eq, hP.1, idx_len]
      rw [List.map_map] at o1 o2 o3
      have sF1 := sF.trans g1
      have yall2 : ∀ y ∈ ys, ∃ t, y = V.ref t ∧ upd G4 p (.lst ys) t = some (.tup [.int (prK G4 y).1, .int (prK G4 y).2]) := fun y hy => by
        obtain ⟨t, e, q⟩ := hP.all y (hb.perm.mem_iff.mp hy)
        exact ⟨t, e, g1.at q⟩
      generalize upd G4 p (.lst ys) = G5 at hp sF1 yall2 ⊢
      refine ⟨p, rfl, ⟨_, SqL.of hp⟩, fun D2 nD2 => ?_⟩
      refine lc_it (walk_list (K := K) (a := p) (xs := ys)) (fun m Hc => Same G5 Hc ∧ Hc D2 = some (.lst (((ys.take m).map fun y => (prK G4 y).2).map V.int)))
        ⟨same_new nD2, upd_same⟩ (fun m Hc _ ⟨s3, _⟩ => SqL.of (s3.at hp)) ?_ ?_
      · rintro m y2 Hc0 Hc hm ⟨s3, hD⟩ ⟨rfl, hy2⟩
        obtain ⟨t, rfl, ht⟩ := yall2 y2 (List.mem_of_getElem? hy2)
        refine ⟨t, _, rfl, SqT.of (s3.at ht), rfl, _, _, rfl, _, _, rfl, rfl, rfl, ?_⟩
        refine ⟨_, rfl, _, hD, ?_, same_put s3 nD2, ?_⟩
        · rw [List.length_map, List.length_map, List.length_take]
          exact Nat.lt_of_le_of_lt (show min m ys.length ≤ 900 by omega) (by decide)
        · rw [upd_same, List.take_add_one, hy2, List.map_append, List.map_append]
          rfl
      rintro G6 ⟨s6, hD2⟩
      rw [List.take_length] at hD2
      refine ⟨D2, _, rfl, .inl ⟨SqL.of hD2, fun t nt => ?_⟩⟩
      have gt := same_new (o := .tup ((ys.map fun y => (prK G4 y).2).map V.int)) nt
      have sE := (sF1.trans s6).trans gt
      have hcE := sE.at hk
      replace o1 : IsOrd (ys.map fun y => (prK G4 y).2) := o1
      replace o2 : (ys.map fun y => (prK G4 y).2).length = ls.length := o2
      replace o3 : Chn ls (ys.map fun y => (prK G4 y).2) (ys.map fun y => (prK G4 y).2).length := o3
      have htE : upd G6 t (.tup ((ys.map fun y => (prK G4 y).2).map V.int)) t = some (.tup ((keyO (ys.map fun y => (prK G4 y).2)).map kV)) := by rw [upd_same, keyO_V]
      generalize upd G6 t (.tup ((ys.map fun y => (prK G4 y).2).map V.int)) = G7 at hcE htE sE ⊢
      generalize (ys.map fun y => (prK G4 y).2) = os at o1 o2 o3 htE ⊢
      have z := ck os o1 (by omega)
      refine ⟨_, rfl, cd, rfl, .inr ⟨kvs, .inl hcE⟩, _, rfl, _, DGet.t hcE htE, _, 1, z, rfl, ?_⟩
      refine ⟨_, rfl, _, rfl, cd, _, rfl, DPut.t hcE htE (Nat.lt_of_le_of_lt (show kvs.length ≤ 400 by omega) (by decide)), ?_⟩
      refine ⟨_, _, _, rfl, ?_, upd_same, ?_, ?_, (SJ.same sE).other cst csc⟩
      · rw [off_upd]
        exact sJ.trans (off_mono sE)
      · exact Nat.le_trans (putK_len ..) (by omega)
      · rw [List.take_add_one, hls]
        exact ck.next o1 (by omega) o3
    rintro σ J ⟨u5, u6, kvs, rfl, sJ, hk, lk, ck, SJ⟩
    rw [xl', List.take_length] at ck
    -- the second loop
    refine ⟨_, rfl, n, rfl, n5, fun l2 xs2 G8 s8 hl2 tl2 => ?_⟩
    have hk8 := s8.at hk
    refine ⟨l2, rfl, ⟨_, SqL.of hl2⟩, for_it (walk_list (K := K) (a := l2) (xs := xs2)) (fun j σ L => ∃ (u6 u7 : Option V), σ = [some (.ref a), some (.ref st_), some (.int n), some (.int total), some (.ref cd), u5, u6, u7, none, none, none, none, none, none] ∧ Same G8 L)
      ⟨u6, none, rfl, Same.refl _⟩ (fun j σ L _ ⟨_, _, _, sL⟩ => SqL.of (sL.at hl2)) ?_ ?_⟩
    · rintro j y1 σ L0 L hj ⟨w6, w7, rfl, sL⟩ ⟨rfl, hy1⟩
      have hr : (ordO n n)[j]? = some ((ordO n n)[j]'(by rw [← tl2.1]; exact hj)) := List.getElem?_eq_getElem (by rw [← tl2.1]; exact hj)
      obtain ⟨t, rfl, ht⟩ := tl2.2 j y1 _ hy1 hr
      generalize (ordO n n)[j]'(by rw [← tl2.1]; exact hj) = os at hr ht
      have hm := List.mem_of_getElem? hr
      obtain ⟨io, lo, lst⟩ := ord_small n5 hm
      have htL := sL.at ht
      refine ⟨_, rfl, _, rfl, .ref t, .tuple (intsD os), total, rfl, .tup (SqT.of htL) dps_ints, by show (intsD os).length ≤ 900; rw [ints_len]; omega, by omega, by omega, fun os2 ls2 e io2 lst2 L1 s1' => ?_, fun p e => absurd (e.symm.trans (order_none io)) (fun z => nomatch z)⟩
      have e2 := ints_inj (PyData.tuple.inj e)
      subst e2
      have e3 := lst_uniq io lst2 lst
      subst e3
      have cs := cnt_small n5 t12 hm
      have z := ck os io lo
      refine ⟨_, rfl, .int _, .int (robC (leastC os) total), 0, rfl, .int _, _, rfl, ?_⟩
      rw [show integerD 0 (.int (robC (leastC os) (total : Int))) = true from decide_eq_true robC_pos]
      refine iteF ?_
      have sL1 := sL.trans s1'
      refine ⟨_, rfl, _, rfl, cd, rfl, .inr ⟨kvs, .inl (sL1.at hk8)⟩, _, rfl, _, DGet.t (sL1.at hk8) (by rw [keyO_V]; exact sL1.at ht), ?_⟩
      rw [z, cs]
      refine ⟨rfl, _, rfl, ?_⟩
      rw [decide_eq_true rfl]
      exact iteF ⟨_, _, rfl, sL1⟩
    rintro σ L ⟨w6, w7, rfl, sL⟩
    have SL := (SJ.same s8).same sL
    clear ck hk hk8 rl rlO ql qlO dl dlO
    -- an order
    refine ⟨_, rfl, st_, sc, 41, _, rfl, by decide, by decide, SL, by decide, fun r3 L1 r30 r31 S3 K3 => ?_⟩
    obtain ⟨cn, rfl⟩ := Int.eq_ofNat_of_zero_le r30
    refine ⟨_, rfl, .of_le (by decide) (by omega) (by decide) (by omega), fun lf nlf => ?_⟩
    have la := S3.ne nlf
    have lsc := S3.ne2 nlf
    have er : rgV 0 (cn : Int) = (rngI cn).map V.int := by
      unfold rgV rngI
      rw [show ((cn : Int) - 0).toNat = cn by omega, List.map_map]
      refine List.map_congr_left fun i _ => ?_
      show V.int (0 + (i : Int)) = V.int (i : Int)
      rw [Int.zero_add]
    have slf := same_new (o := .lst (rgV 0 (cn : Int))) nlf
    have hl : upd L1 lf (.lst (rgV 0 (cn : Int))) lf = some (.lst ((rngI cn).map V.int)) := by rw [upd_same, er]
    have S4 := S3.same slf
    generalize upd L1 lf (.lst (rgV 0 (cn : Int))) = M1 at hl S4 ⊢
    refine ⟨_, rfl, lf, _, rfl, .inl (SqL.of hl), _, rfl, by omega, by rw [List.length_map, rng_len]; omega, fun D1 nD1 => ?_⟩
    have Da := S4.ne nD1
    have Dl : D1 ≠ lf := fun e => by rw [e, hl] at nD1; cases nD1
    have Dsc := S4.ne2 nD1
    refine lc_it (walk_range (lo := 0) (n := ((((rngI cn).map V.int).length : Nat) : Int).toNat)) (fun m Hc => ∃ (acc lf' : List Int), Hc D1 = some (.lst (acc.map V.int)) ∧ Hc lf = some (.lst (lf'.map V.int)) ∧ acc.length = m ∧ (acc ++ lf').Perm (rngI cn) ∧ Sto sc st_ (20 + m) Hc)
      ⟨[], rngI cn, upd_same, by rw [upd_ne Dl.symm]; exact hl, rfl, List.Perm.refl _, (S4.same (same_new nD1)).more (by omega)⟩ (fun _ _ _ _ => trivial) ?_ ?_
    · rintro m y1 Hc0 Hc hm ⟨acc, lf', hD, hl3, al, pm, SG5⟩ ⟨rfl, rfl⟩
      rw [List.length_map, rng_len, Int.toNat_natCast] at hm
      have ll := pm.length_eq
      rw [List.length_append, rng_len] at ll
      refine ⟨rfl, ?_⟩
      refine ⟨_, rfl, .inl ⟨rfl, _, SqL.of hl3⟩, _, rfl, _, rfl, lf, _, rfl, .inl (SqL.of hl3), st_, sc, _, _, rfl, by rw [List.length_map]; omega, by rw [List.length_map]; omega, SG5, by omega, fun r H3 r0 r1 S5 K5 => ?_⟩
      rw [List.length_map] at r1
      have hl4 := K5.at hl3 la
      have hD4 := K5.at hD Da
      have hri : lf'[r.toNat]? = some lf'[r.toNat] := List.getElem?_eq_getElem (by omega)
      generalize lf'[r.toNat] = y at hri
      refine ⟨lf, _, r, r.toNat, .int y, rfl, rfl, hl4, by omega, by omega, sq_at r0 (by rw [List.length_map]; exact r1), by rw [List.getElem?_map, hri]; rfl, ?_⟩
      refine ⟨_, by rw [upd_ne Dl]; exact hD4, by rw [List.length_map]; exact Nat.lt_of_le_of_lt (show acc.length ≤ 41 by omega) (by decide), acc ++ [y], lf'.eraseIdx r.toNat, ?_, ?_, by rw [List.length_append, al]; rfl, ?_, ?_⟩
      · rw [upd_same, List.map_append]
        rfl
      · rw [upd_ne Dl.symm, upd_same, map_erase]
      · refine List.Perm.trans ?_ pm
        rw [List.append_assoc]
        exact List.Perm.append_left _ (perm_erase hri).symm
      · exact ((S5.other la lsc).other Da Dsc).more (by push_cast; omega)
    rintro M2 ⟨acc, lf', hD, hl3, al, pm, SM2⟩
    rw [List.length_map, rng_len, Int.toNat_natCast] at al SM2
    have lf0 : lf' = [] := by
      have ll := pm.length_eq
      rw [List.length_append, rng_len, al] at ll
      exact List.eq_nil_of_length_eq_zero (by omega)
    rw [lf0, List.append_nil] at pm
    obtain ⟨io, lo⟩ := perm_ord pm
    refine ⟨D1, _, rfl, .inl ⟨SqL.of hD, fun t nt => ?_⟩⟩
    have st := same_new (o := .tup (acc.map V.int)) nt
    have dt : Dp K (Off st_ (upd M2 t (.tup (acc.map V.int)))) (.ref t) (.tuple (intsD acc)) := .tup (a := t) (SqT.of (by rw [off_ne (SM2.ne nt)]; exact upd_same)) dps_ints
    have SM3 := SM2.same st
    generalize upd M2 t (.tup (acc.map V.int)) = M3 at dt SM3 ⊢
    generalize acc = os at io lo dt
    clear hD hl3 pm lf0 al st nt Da Dl Dsc nD1 hl slf nlf er la lsc
    have l40 : os.length ≤ 40 := by omega
    have ln9 : lenT (.tuple (intsD os)) ≤ 900 := by show (intsD os).length ≤ 900; rw [ints_len]; omega
    -- total
    refine ⟨_, rfl, st_, sc, 301, _, rfl, by decide, by decide, SM3, by omega, fun ra M4 ra0 ra1 S4' K4 => ?_⟩
    have d4 := dp_same K4 dt
    refine ⟨_, rfl, .ref t, .tuple (intsD os), rfl, dp_on d4, ln9, fun os2 e _ ls lv_ M5 lst s5 d5 _ => ?_, fun p e => absurd (e.symm.trans (order_none io)) (fun z => nomatch z)⟩
    have e2 := ints_inj (PyData.tuple.inj e)
    subst e2
    have lpos := lst_pos io lst
    have sp := sum_pos lpos
    obtain ⟨pa, ws, rfl, qa, rra⟩ := dp_tuple d5
    have ea := ints_dps rra
    subst ea
    have S5' := S4'.same s5
    have d5' := dp_up s5 d4
    refine ⟨pa, ls, rfl, qa, _, rfl, st_, sc, 60, _, rfl, by decide, by decide, S5', by omega, fun rb M6 rb0 rb1 S6 K6 => ?_⟩
    refine ⟨_, _, rfl, rfl, 300, _, rfl, (by show 2 ≤ sizeLine; decide), fun q2 nq2 => ?_⟩
    have sq2 := same_new (o := .lst [.int ra, .int (if ls.sum + rb < 300 then ls.sum + rb else 300)]) nq2
    have q2a := S6.ne nq2
    refine ⟨_, rfl, st_, sc, 2, _, rfl, by decide, by decide, S6.same sq2, by omega, fun rc M7 rc0 rc1 S7 K7 => ?_⟩
    obtain ⟨tt, htt, tt0, tt3⟩ : ∃ tt : Int, atI [V.int ra, .int (if ls.sum + rb < 300 then ls.sum + rb else 300)] rc = some (.int tt) ∧ 0 ≤ tt ∧ tt ≤ 300 := by
      obtain ⟨i, rfl⟩ := Int.eq_ofNat_of_zero_le rc0
      match i, rc1 with
      | 0, _ => exact ⟨ra, rfl, ra0, by omega⟩
      | 1, _ => exact ⟨_, rfl, by split <;> omega, by split <;> omega⟩
      | i + 2, h => exact absurd h (by push_cast; omega)
    refine ⟨q2, _, _, _, rfl, rfl, SqL.of (K7.at (upd_same (H := M6) (a := q2) (o := .lst [.int ra, .int (if ls.sum + rb < 300 then ls.sum + rb else 300)])) q2a), htt, ?_⟩
    have d7 := dp_same ((K6.trans (kept_same sq2)).trans K7) d5'
    clear d5 d5' d4 dt qa
    -- rest
    refine ⟨_, rfl, _, rfl, .ref t, .tuple (intsD os), rfl, dp_on d7, ln9, fun os2 e _ ls3 lv3 M8 lst3 s8' d8 _ => ?_, fun p e => absurd (e.symm.trans (order_none io)) (fun z => nomatch z)⟩
    have e2 := ints_inj (PyData.tuple.inj e)
    subst e2
    have e3 := lst_uniq io lst3 lst
    subst e3
    obtain ⟨pb, ws2, rfl, qb, rrb⟩ := dp_tuple d8
    have eb := ints_dps rrb
    subst eb
    have d9 := dp_up s8' d7
    refine ⟨pb, ls3, rfl, qb, _, _, rfl, rfl, ?_⟩
    obtain ⟨pt, vs', et, qt, rt⟩ := dp_tuple d9
    cases et
    have ev := ints_dps rt
    subst ev
    have oM8 := off_sub st_ M8
    apply cutR (α := L2.St → Hp → Prop) (F := fun R => ∀ (G' : Hp), Same M8 G' → R [some (.ref a), some (.ref st_), some (.int n), some (.int tt), some (.ref cd), u5, some (.ref t), w7, some (.ref lf), some (.int (tt - ls3.sum)), some (.int (robC ls3 tt)), none, none, none] G')
    · intro cont
      refine ⟨_, rfl, _, _, rfl, rfl, _, rfl, ite2 (fun hz => ?_) (fun hz => ?_)⟩
      case refine_2 =>
        have hz : ¬ 0 ≤ tt - ls3.sum := fun e => hz (decide_eq_true e)
        have z := cont M8 (Same.refl _)
        unfold robC at z
        rw [if_neg hz] at z
        exact z
      have hz : 0 ≤ tt - ls3.sum := of_decide_eq_true hz
      obtain ⟨rn, en⟩ := Int.eq_ofNat_of_zero_le hz
      refine ⟨_, rfl, _, rfl, t, _, rfl, .inr (same_seqT oM8 qt), rn, os.length, ?_, by omega, by omega, fun G' s' => ?_⟩
      · show [V.int (tt - ls3.sum), V.int (((os.map V.int).length : Nat) : Int)] = [V.int (rn : Int), V.int (os.length : Int)]
        rw [en, List.length_map]
      · have z := cont G' s'
        unfold robC at z
        rw [if_pos hz, en, Int.toNat_natCast, lst3.1] at z
        exact z
    intro G' sG'
    have d10 := dp_up sG' d9
    have oG := off_sub st_ G'
    refine ⟨_, rfl, _, rfl, .ref t, .tuple (intsD os), tt, rfl, dp_on d10, ln9, tt0, by omega, fun os2 ls2 e io2 lst2 M9 s9 => ?_, fun p e => absurd (e.symm.trans (order_none io)) (fun z => nomatch z)⟩
    have e2 := ints_inj (PyData.tuple.inj e)
    subst e2
    have e3 := lst_uniq io lst2 lst3
    subst e3
    refine ⟨_, rfl, rfl, _, rfl, ?_⟩
    rw [decide_eq_true rfl]
    refine iteT ?_
    refine ⟨_, rfl, (by show 0 ≤ sizeLine; decide), fun q9 nq9 => ?_⟩
    have sq9 := same_new (o := .tup []) nq9
    have s99 := sG'.trans (s9.trans sq9)
    have qt9 := same_seqT (oM8.trans s99) qt
    refine ⟨t, q9, _, rfl, rfl, qt9, SqT.of upd_same, _, rfl, ?_⟩
    cases he : (os.map V.int).isEmpty with
    | true => exact iteT (k _)
    | false =>
    have opos : 0 < os.length := by
      cases os with
      | nil => cases he
      | cons x r => exact Nat.succ_pos _
    refine iteF ?_
    refine ⟨_, rfl, _, rfl, _, rfl, ?_⟩
    dsimp only [tNoPart]
    refine slice_go0 (dp_same (oG.trans (s9.trans sq9)) d10) (fun z M10 s10 dz => ?_)
    have e1 : HT.sIx (intsD os).length 0 (some (-39)) = os.length - 39 := by
      rw [ints_len]
      show (if (-39 : Int) < 0 then (-39 + (os.length : Int)).toNat else min (-39 : Int).toNat os.length) = _
      rw [if_pos (by decide)]
      omega
    replace dz : Dp K M10 z (.tuple (((intsD os).drop (HT.sIx (intsD os).length 0 (some (-39)))).take ((intsD os).length - HT.sIx (intsD os).length 0 (some (-39))))) := dz
    have e5 : (intsD (os.drop (os.length - 39))).take ((intsD os).length - (os.length - 39)) = intsD (os.drop (os.length - 39)) := List.take_of_length_le (by rw [ints_len, ints_len, List.length_drop]; exact Nat.le_refl _)
    rw [e1, ints_drop, e5] at dz
    have dl9 : (os.drop (os.length - 39)).length = min os.length 39 := by
      rw [List.length_drop]
      omega
    refine ⟨z, os.drop (os.length - 39), rfl, dz, io.nd.sublist (List.drop_sublist ..), by omega, by omega, fun v hv => ?_, fun H' _ => k H'⟩
    have := io.rng v (List.mem_of_mem_drop hv)
    rw [dl9]
    omega
end
end Vk
namespace Vk
open PySem PySem.Spec PyProof.Rows L2

theorem all_mk {l : PySem.W.OpenLaw} {w : World} {K : PySem.W.Frag} {h : Heap} {mg : Str → Option Value} {fa : Addr} (X : K.In h) (G : h.Ns mainGlobals mg) (hfa : mg "law" = some (.ref fa))
    {f0 : Addr} {oc0 kV0 dc0 pm0 cd0 ct0 : Value} {od0 an0 : Option Addr} {sl0 : Array (Option Value)}
    {f1 : Addr} {oc1 kV1 dc1 pm1 cd1 ct1 : Value} {od1 an1 : Option Addr} {sl1 : Array (Option Value)}
    {f2 : Addr} {oc2 kV2 dc2 pm2 cd2 ct2 : Value} {od2 an2 : Option Addr} {sl2 : Array (Option Value)}
    {f3 : Addr} {oc3 kV3 dc3 pm3 cd3 ct3 : Value} {od3 an3 : Option Addr} {sl3 : Array (Option Value)}
    {f4 : Addr} {oc4 kV4 dc4 pm4 cd4 ct4 : Value} {od4 an4 : Option Addr} {sl4 : Array (Option Value)}
    {f5 : Addr} {oc5 kV5 dc5 pm5 cd5 ct5 : Value} {od5 an5 : Option Addr} {sl5 : Array (Option Value)}
    {f6 : Addr} {oc6 kV6 dc6 pm6 cd6 ct6 : Value} {od6 an6 : Option Addr} {sl6 : Array (Option Value)}
    {f7 : Addr} {oc7 kV7 dc7 pm7 cd7 ct7 : Value} {od7 an7 : Option Addr} {sl7 : Array (Option Value)}
    {f8 : Addr} {oc8 kV8 dc8 pm8 cd8 ct8 : Value} {od8 an8 : Option Addr} {sl8 : Array (Option Value)}
    {f9 : Addr} {oc9 kV9 dc9 pm9 cd9 ct9 : Value} {od9 an9 : Option Addr} {sl9 : Array (Option Value)}
    {f10 : Addr} {oc10 kV10 dc10 pm10 cd10 ct10 : Value} {od10 an10 : Option Addr} {sl10 : Array (Option Value)}
    {f11 : Addr} {oc11 kV11 dc11 pm11 cd11 ct11 : Value} {od11 an11 : Option Addr} {sl11 : Array (Option Value)}
    {f12 : Addr} {oc12 kV12 dc12 pm12 cd12 ct12 : Value} {od12 an12 : Option Addr} {sl12 : Array (Option Value)}
    {f13 : Addr} {oc13 kV13 dc13 pm13 cd13 ct13 : Value} {od13 an13 : Option Addr} {sl13 : Array (Option Value)}
    {f14 : Addr} {oc14 kV14 dc14 pm14 cd14 ct14 : Value} {od14 an14 : Option Addr} {sl14 : Array (Option Value)}
    {S : Addr}
    {E0 : Addr}
    {E1 : Addr}
    {E2 : Addr}
    {E3 : Addr}
    {E4 : Addr}
    {E5 : Addr}
    {E6 : Addr}
    {E7 : Addr}
    {E8 : Addr}
    {E9 : Addr}
    {E10 : Addr}
    {E11 : Addr}
    {fI6 : Addr} {nm6 q6 : Str} {N6 : Addr} {bs6 sb6 : List Value} {sn6 : List Str} {ab6 : Bool} {col6 : Option Bool} {dd6 : Option Addr} {m06 m16 m26 m36 m56 : Option Value} {ocI6 kVI6 dcI6 pmI6 cdI6 ctI6 : Value} {odI6 anI6 : Option Addr} {slI6 : Array (Option Value)}
    (a0 : PySem.W.nsIn K mainGlobals "is_integer" = some (some (.ref f0)))
    (l0 : K.lookup f0 = some ⟨oc0, od0, .func (PySem.W.fnOf "is_integer" "is_integer" (defArgs sInteger) (defBody sInteger) (defScope sInteger) .none kV0 dc0 pm0 an0 cd0 ct0), sl0⟩)
    (c0 : PySem.W.codeIn K cd0 "is_integer" = true)
    (k0 : PySem.W.keepIn K (.ref f0) = true)
    (a1 : PySem.W.nsIn K mainGlobals "least_lengths" = some (some (.ref f1)))
    (l1 : K.lookup f1 = some ⟨oc1, od1, .func (PySem.W.fnOf "least_lengths" "least_lengths" (defArgs sLeast) (defBody sLeast) (defScope sLeast) .none kV1 dc1 pm1 an1 cd1 ct1), sl1⟩)
    (c1 : PySem.W.codeIn K cd1 "least_lengths" = true)
    (k1 : PySem.W.keepIn K (.ref f1) = true)
    (a2 : PySem.W.nsIn K mainGlobals "count_robin" = some (some (.ref f2)))
    (l2 : K.lookup f2 = some ⟨oc2, od2, .func (PySem.W.fnOf "count_robin" "count_robin" (defArgs sRobin) (defBody sRobin) (defScope sRobin) .none kV2 dc2 pm2 an2 cd2 ct2), sl2⟩)
    (c2 : PySem.W.codeIn K cd2 "count_robin" = true)
    (k2 : PySem.W.keepIn K (.ref f2) = true)
    (a3 : PySem.W.nsIn K mainGlobals "count_parts" = some (some (.ref f3)))
    (l3 : K.lookup f3 = some ⟨oc3, od3, .func (PySem.W.fnOf "count_parts" "count_parts" (defArgs sParts) (defBody sParts) (defScope sParts) .none kV3 dc3 pm3 an3 cd3 ct3), sl3⟩)
    (c3 : PySem.W.codeIn K cd3 "count_parts" = true)
    (k3 : PySem.W.keepIn K (.ref f3) = true)
    (a4 : PySem.W.nsIn K mainGlobals "check_order" = some (some (.ref f4)))
    (l4 : K.lookup f4 = some ⟨oc4, od4, .func (PySem.W.fnOf "check_order" "check_order" (defArgs sCheckOrd) (defBody sCheckOrd) (defScope sCheckOrd) .none kV4 dc4 pm4 an4 cd4 ct4), sl4⟩)
    (c4 : PySem.W.codeIn K cd4 "check_order" = true)
    (k4 : PySem.W.keepIn K (.ref f4) = true)
    (a5 : PySem.W.nsIn K mainGlobals "_law_mix" = some (some (.ref f5)))
    (l5 : K.lookup f5 = some ⟨oc5, od5, .func (PySem.W.fnOf "_law_mix" "_law_mix" (defArgs sMix) (defBody sMix) (defScope sMix) .none kV5 dc5 pm5 an5 cd5 ct5), sl5⟩)
    (c5 : PySem.W.codeIn K cd5 "_law_mix" = true)
    (k5 : PySem.W.keepIn K (.ref f5) = true)
    (a6 : PySem.W.nsIn K mainGlobals "_law_store" = some (some (.ref f6)))
    (l6 : K.lookup f6 = some ⟨oc6, od6, .func (PySem.W.fnOf "_law_store" "_law_store" (defArgs sStore) (defBody sStore) (defScope sStore) .none kV6 dc6 pm6 an6 cd6 ct6), sl6⟩)
    (c6 : PySem.W.codeIn K cd6 "_law_store" = true)
    (k6 : PySem.W.keepIn K (.ref f6) = true)
    (a7 : PySem.W.nsIn K mainGlobals "_law_pick" = some (some (.ref f7)))
    (l7 : K.lookup f7 = some ⟨oc7, od7, .func (PySem.W.fnOf "_law_pick" "_law_pick" (defArgs sPick) (defBody sPick) (defScope sPick) .none kV7 dc7 pm7 an7 cd7 ct7), sl7⟩)
    (c7 : PySem.W.codeIn K cd7 "_law_pick" = true)
    (k7 : PySem.W.keepIn K (.ref f7) = true)
    (a8 : PySem.W.nsIn K mainGlobals "_law_is_int" = some (some (.ref f8)))
    (l8 : K.lookup f8 = some ⟨oc8, od8, .func (PySem.W.fnOf "_law_is_int" "_law_is_int" (defArgs sInt) (defBody sInt) (defScope sInt) .none kV8 dc8 pm8 an8 cd8 ct8), sl8⟩)
    (c8 : PySem.W.codeIn K cd8 "_law_is_int" = true)
    (k8 : PySem.W.keepIn K (.ref f8) = true)
    (a9 : PySem.W.nsIn K mainGlobals "_law_kind" = some (some (.ref f9)))
    (l9 : K.lookup f9 = some ⟨oc9, od9, .func (PySem.W.fnOf "_law_kind" "_law_kind" (defArgs sKind) (defBody sKind) (defScope sKind) .none kV9 dc9 pm9 an9 cd9 ct9), sl9⟩)
    (c9 : PySem.W.codeIn K cd9 "_law_kind" = true)
    (k9 : PySem.W.keepIn K (.ref f9) = true)
    (a10 : PySem.W.nsIn K mainGlobals "_law_parted" = some (some (.ref f10)))
    (l10 : K.lookup f10 = some ⟨oc10, od10, .func (PySem.W.fnOf "_law_parted" "_law_parted" (defArgs sParted) (defBody sParted) (defScope sParted) .none kV10 dc10 pm10 an10 cd10 ct10), sl10⟩)
    (c10 : PySem.W.codeIn K cd10 "_law_parted" = true)
    (k10 : PySem.W.keepIn K (.ref f10) = true)
    (a11 : PySem.W.nsIn K mainGlobals "_law_orders" = some (some (.ref f11)))
    (l11 : K.lookup f11 = some ⟨oc11, od11, .func (PySem.W.fnOf "_law_orders" "_law_orders" (defArgs sOrders) (defBody sOrders) (defScope sOrders) .none kV11 dc11 pm11 an11 cd11 ct11), sl11⟩)
    (c11 : PySem.W.codeIn K cd11 "_law_orders" = true)
    (k11 : PySem.W.keepIn K (.ref f11) = true)
    (a12 : PySem.W.nsIn K mainGlobals "_law_partitions" = some (some (.ref f12)))
    (l12 : K.lookup f12 = some ⟨oc12, od12, .func (PySem.W.fnOf "_law_partitions" "_law_partitions" (defArgs sPartit) (defBody sPartit) (defScope sPartit) .none kV12 dc12 pm12 an12 cd12 ct12), sl12⟩)
    (c12 : PySem.W.codeIn K cd12 "_law_partitions" = true)
    (k12 : PySem.W.keepIn K (.ref f12) = true)
    (a13 : PySem.W.nsIn K mainGlobals "_law_twice_right" = some (some (.ref f13)))
    (l13 : K.lookup f13 = some ⟨oc13, od13, .func (PySem.W.fnOf "_law_twice_right" "_law_twice_right" (defArgs sTwice) (defBody sTwice) (defScope sTwice) .none kV13 dc13 pm13 an13 cd13 ct13), sl13⟩)
    (c13 : PySem.W.codeIn K cd13 "_law_twice_right" = true)
    (k13 : PySem.W.keepIn K (.ref f13) = true)
    (a14 : PySem.W.nsIn K mainGlobals "law" = some (some (.ref f14)))
    (l14 : K.lookup f14 = some ⟨oc14, od14, .func (PySem.W.fnOf "law" "law" (defArgs sLaw) (defBody sLaw) (defScope sLaw) .none kV14 dc14 pm14 an14 cd14 ct14), sl14⟩)
    (c14 : PySem.W.codeIn K cd14 "law" = true)
    (k14 : PySem.W.keepIn K (.ref f14) = true)
    (z_len : PySem.W.nsIn K mainGlobals "len" = some none)
    (z_isinstance : PySem.W.nsIn K mainGlobals "isinstance" = some none)
    (z_int : PySem.W.nsIn K mainGlobals "int" = some none)
    (z_bool : PySem.W.nsIn K mainGlobals "bool" = some none)
    (z_tuple : PySem.W.nsIn K mainGlobals "tuple" = some none)
    (z_str : PySem.W.nsIn K mainGlobals "str" = some none)
    (z_range : PySem.W.nsIn K mainGlobals "range" = some none)
    (z_enumerate : PySem.W.nsIn K mainGlobals "enumerate" = some none)
    (z_list : PySem.W.nsIn K mainGlobals "list" = some none)
    (z_min : PySem.W.nsIn K mainGlobals "min" = some none)
    (z_sorted : PySem.W.nsIn K mainGlobals "sorted" = some none)
    (z_sum : PySem.W.nsIn K mainGlobals "sum" = some none)
    (aS : PySem.W.nsIn K mainGlobals "SlotError" = some (some (.ref S)))
    (iS : PySem.W.isClsIn K S = true)
    (hS : PySem.W.hasDictIn K S = true)
    (tS : PySem.W.typeIn K (.ref S) = some (.type "type"))
    (eS : PySem.W.subIn K (.ref S) (.type "BaseException") = some true)
    (spG : PySem.W.specialIn K (.builtin "object.__class__") "__get__" = some (some (.builtin "getset_descriptor.__get__")))
    (tkG : PySem.W.takesIn K (.builtin "object.__class__") = some true)
    (zVE : PySem.W.nsIn K mainGlobals "ValueError" = some none)
    (aE0 : PySem.W.nsIn K mainGlobals "NoJobs" = some (some (.ref E0)))
    (iE0 : PySem.W.isClsIn K E0 = true)
    (tE0 : PySem.W.typeIn K (.ref E0) = some (.type "type"))
    (aE1 : PySem.W.nsIn K mainGlobals "NoRule" = some (some (.ref E1)))
    (iE1 : PySem.W.isClsIn K E1 = true)
    (tE1 : PySem.W.typeIn K (.ref E1) = some (.type "type"))
    (aE2 : PySem.W.nsIn K mainGlobals "NoLengths" = some (some (.ref E2)))
    (iE2 : PySem.W.isClsIn K E2 = true)
    (tE2 : PySem.W.typeIn K (.ref E2) = some (.type "type"))
    (aE3 : PySem.W.nsIn K mainGlobals "NoLog" = some (some (.ref E3)))
    (iE3 : PySem.W.isClsIn K E3 = true)
    (tE3 : PySem.W.typeIn K (.ref E3) = some (.type "type"))
    (aE4 : PySem.W.nsIn K mainGlobals "NoMarks" = some (some (.ref E4)))
    (iE4 : PySem.W.isClsIn K E4 = true)
    (tE4 : PySem.W.typeIn K (.ref E4) = some (.type "type"))
    (aE5 : PySem.W.nsIn K mainGlobals "NoNamed" = some (some (.ref E5)))
    (iE5 : PySem.W.isClsIn K E5 = true)
    (tE5 : PySem.W.typeIn K (.ref E5) = some (.type "type"))
    (aE6 : PySem.W.nsIn K mainGlobals "NoOrder" = some (some (.ref E6)))
    (iE6 : PySem.W.isClsIn K E6 = true)
    (tE6 : PySem.W.typeIn K (.ref E6) = some (.type "type"))
    (aE7 : PySem.W.nsIn K mainGlobals "NoText" = some (some (.ref E7)))
    (iE7 : PySem.W.isClsIn K E7 = true)
    (tE7 : PySem.W.typeIn K (.ref E7) = some (.type "type"))
    (aE8 : PySem.W.nsIn K mainGlobals "NoNumber" = some (some (.ref E8)))
    (iE8 : PySem.W.isClsIn K E8 = true)
    (tE8 : PySem.W.typeIn K (.ref E8) = some (.type "type"))
    (aE9 : PySem.W.nsIn K mainGlobals "NoName" = some (some (.ref E9)))
    (iE9 : PySem.W.isClsIn K E9 = true)
    (tE9 : PySem.W.typeIn K (.ref E9) = some (.type "type"))
    (aE10 : PySem.W.nsIn K mainGlobals "NoUndo" = some (some (.ref E10)))
    (iE10 : PySem.W.isClsIn K E10 = true)
    (tE10 : PySem.W.typeIn K (.ref E10) = some (.type "type"))
    (aE11 : PySem.W.nsIn K mainGlobals "NoLine" = some (some (.ref E11)))
    (iE11 : PySem.W.isClsIn K E11 = true)
    (tE11 : PySem.W.typeIn K (.ref E11) = some (.type "type"))
    (x6_ : K.lookup E6 = some (excClassObj nm6 q6 E6 N6 bs6 [.ref S, .type "ValueError", .type "Exception", .type "BaseException", .type "object"] true sn6 sb6 ab6 col6 dd6 m06 m16 m26 m36 m56 "ValueError.__new__"))
    (sa6 : PySem.W.findIn K (.ref E6) "__setattr__" = some (some (.builtin "object.__setattr__")))
    (ga6 : PySem.W.findIn K (.ref E6) "__getattribute__" = some (some (.builtin "BaseException.__getattribute__")))
    (gg6 : PySem.W.findIn K (.ref E6) "__getattr__" = some none)
    (np6 : PySem.W.findIn K (.ref E6) "place" = some none)
    (in6 : PySem.W.findIn K (.ref E6) "__init__" = some (some (.ref fI6)))
    (ti6 : PySem.W.typeIn K (.ref fI6) = some (.type "function"))
    (li6 : K.lookup fI6 = some ⟨ocI6, odI6, .func (PySem.W.fnOf "__init__" "NoOrder.__init__" (defArgs sOrdInit) (defBody sOrdInit) (defScope sOrdInit) .none kVI6 dcI6 pmI6 anI6 cdI6 ctI6), slI6⟩)
    (ci6 : PySem.W.codeIn K cdI6 "NoOrder.__init__" = true)
    (ki6 : PySem.W.keepIn K (.ref fI6) = true)
    (kc6 : PySem.W.keepIn K (.ref E6) = true)
    (ec6 : PySem.W.subIn K (.ref E6) (.type "BaseException") = some true)
    (hc6 : PySem.W.hasDictIn K E6 = true)
    (cc6 : PySem.W.findIn K (.ref E6) "__class__" = some (some (.builtin "object.__class__")))
    (mc6 : PySem.W.mroIn K E6 (.type "object") = some true)
    (vc6 : PySem.W.subIn K (.ref E6) (.type "ValueError") = some true)
    (sc6 : PySem.W.subIn K (.ref E6) (.ref S) = some true)
    (s6_0 : PySem.W.subIn K (.ref E6) (.ref E0) = some false)
    (n6_0 : (Value.ref E6 == Value.ref E0) = false)
    (s6_1 : PySem.W.subIn K (.ref E6) (.ref E1) = some false)
    (n6_1 : (Value.ref E6 == Value.ref E1) = false)
    (s6_2 : PySem.W.subIn K (.ref E6) (.ref E2) = some false)
    (n6_2 : (Value.ref E6 == Value.ref E2) = false)
    (s6_3 : PySem.W.subIn K (.ref E6) (.ref E3) = some false)
    (n6_3 : (Value.ref E6 == Value.ref E3) = false)
    (s6_4 : PySem.W.subIn K (.ref E6) (.ref E4) = some false)
    (n6_4 : (Value.ref E6 == Value.ref E4) = false)
    (s6_5 : PySem.W.subIn K (.ref E6) (.ref E5) = some false)
    (n6_5 : (Value.ref E6 == Value.ref E5) = false)
    (s6_7 : PySem.W.subIn K (.ref E6) (.ref E7) = some false)
    (n6_7 : (Value.ref E6 == Value.ref E7) = false)
    (s6_8 : PySem.W.subIn K (.ref E6) (.ref E8) = some false)
    (n6_8 : (Value.ref E6 == Value.ref E8) = false)
    (s6_9 : PySem.W.subIn K (.ref E6) (.ref E9) = some false)
    (n6_9 : (Value.ref E6 == Value.ref E9) = false)
    (s6_10 : PySem.W.subIn K (.ref E6) (.ref E10) = some false)
    (n6_10 : (Value.ref E6 == Value.ref E10) = false)
    (s6_11 : PySem.W.subIn K (.ref E6) (.ref E11) = some false)
    (n6_11 : (Value.ref E6 == Value.ref E11) = false)
    : ∃ fd : FuncData, (∀ (s : Shared) (v : Value), BindsTo s fd ⟨[v], []⟩ [("script", v)]) ∧ ∀ base : Heap, K.In base → base.Ns mainGlobals mg → FnOk l.prog w K mg base CX0 7 fa fd ["script"] (spLaw K) := by
  have D0 : Df K mg "is_integer" sInteger ["value", "least"] := by
    have F := fun_mk (st := sInteger) l0 c0 k0
    exact ⟨_, _, PySem.W.mg_of X G a0, F, F.binds (ps := ["value", "least"]) fun _ _ _ _ _ _ us hl => match us, hl with | [_, _], _ => rfl⟩
  have D1 : Df K mg "least_lengths" sLeast ["order"] := by
    have F := fun_mk (st := sLeast) l1 c1 k1
    exact ⟨_, _, PySem.W.mg_of X G a1, F, F.binds (ps := ["order"]) fun _ _ _ _ _ _ us hl => match us, hl with | [_], _ => rfl⟩
  have D2 : Df K mg "count_robin" sRobin ["order", "total"] := by
    have F := fun_mk (st := sRobin) l2 c2 k2
    exact ⟨_, _, PySem.W.mg_of X G a2, F, F.binds (ps := ["order", "total"]) fun _ _ _ _ _ _ us hl => match us, hl with | [_, _], _ => rfl⟩
  have D3 : Df K mg "count_parts" sParts ["total", "most"] := by
    have F := fun_mk (st := sParts) l3 c3 k3
    exact ⟨_, _, PySem.W.mg_of X G a3, F, F.binds (ps := ["total", "most"]) fun _ _ _ _ _ _ us hl => match us, hl with | [_, _], _ => rfl⟩
  have D4 : Df K mg "check_order" sCheckOrd ["order"] := by
    have F := fun_mk (st := sCheckOrd) l4 c4 k4
    exact ⟨_, _, PySem.W.mg_of X G a4, F, F.binds (ps := ["order"]) fun _ _ _ _ _ _ us hl => match us, hl with | [_], _ => rfl⟩
  have D5 : Df K mg "_law_mix" sMix ["number", "turn"] := by
    have F := fun_mk (st := sMix) l5 c5 k5
    exact ⟨_, _, PySem.W.mg_of X G a5, F, F.binds (ps := ["number", "turn"]) fun _ _ _ _ _ _ us hl => match us, hl with | [_, _], _ => rfl⟩
  have D6 : Df K mg "_law_store" sStore ["script"] := by
    have F := fun_mk (st := sStore) l6 c6 k6
    exact ⟨_, _, PySem.W.mg_of X G a6, F, F.binds (ps := ["script"]) fun _ _ _ _ _ _ us hl => match us, hl with | [_], _ => rfl⟩
  have D7 : Df K mg "_law_pick" sPick ["store", "count"] := by
    have F := fun_mk (st := sPick) l7 c7 k7
    exact ⟨_, _, PySem.W.mg_of X G a7, F, F.binds (ps := ["store", "count"]) fun _ _ _ _ _ _ us hl => match us, hl with | [_, _], _ => rfl⟩
  have D8 : Df K mg "_law_is_int" sInt ["value", "least"] := by
    have F := fun_mk (st := sInt) l8 c8 k8
    exact ⟨_, _, PySem.W.mg_of X G a8, F, F.binds (ps := ["value", "least"]) fun _ _ _ _ _ _ us hl => match us, hl with | [_, _], _ => rfl⟩
  have D9 : Df K mg "_law_kind" sKind ["caught"] := by
    have F := fun_mk (st := sKind) l9 c9 k9
    exact ⟨_, _, PySem.W.mg_of X G a9, F, F.binds (ps := ["caught"]) fun _ _ _ _ _ _ us hl => match us, hl with | [_], _ => rfl⟩
  have D10 : Df K mg "_law_parted" sParted ["total", "count"] := by
    have F := fun_mk (st := sParted) l10 c10 k10
    exact ⟨_, _, PySem.W.mg_of X G a10, F, F.binds (ps := ["total", "count"]) fun _ _ _ _ _ _ us hl => match us, hl with | [_, _], _ => rfl⟩
  have D11 : Df K mg "_law_orders" sOrders ["count"] := by
    have F := fun_mk (st := sOrders) l11 c11 k11
    exact ⟨_, _, PySem.W.mg_of X G a11, F, F.binds (ps := ["count"]) fun _ _ _ _ _ _ us hl => match us, hl with | [_], _ => rfl⟩
  have D12 : Df K mg "_law_partitions" sPartit ["rest", "most"] := by
    have F := fun_mk (st := sPartit) l12 c12 k12
    exact ⟨_, _, PySem.W.mg_of X G a12, F, F.binds (ps := ["rest", "most"]) fun _ _ _ _ _ _ us hl => match us, hl with | [_, _], _ => rfl⟩
  have D13 : Df K mg "_law_twice_right" sTwice ["order"] := by
    have F := fun_mk (st := sTwice) l13 c13 k13
    exact ⟨_, _, PySem.W.mg_of X G a13, F, F.binds (ps := ["order"]) fun _ _ _ _ _ _ us hl => match us, hl with | [_], _ => rfl⟩
  have D14 : Df K mg "law" sLaw ["script"] := by
    have F := fun_mk (st := sLaw) l14 c14 k14
    exact ⟨_, _, PySem.W.mg_of X G a14, F, F.binds (ps := ["script"]) fun _ _ _ _ _ _ us hl => match us, hl with | [_], _ => rfl⟩
  have oex6 : OexC K E6 := ⟨⟨_, _, _, _, _, _, _, _, _, _, _, _, _, _, _, x6_, rfl⟩, sa6, ec6, tE6, kc6⟩
  have exc6 : ExcC K E6 := ⟨ga6, gg6, ec6, hc6, cc6, spG, tkG, mc6⟩
  have xfc6 : XfC K E6 := ⟨ga6, gg6, ec6, hc6⟩
  have nit6 : Nit K "NoOrder" "NoOrder.__init__" "place" sOrdInit E6 := by
    have F : Fun K "__init__" "NoOrder.__init__" sOrdInit fI6 _ := fun_mk (st := sOrdInit) li6 ci6 ki6
    exact ⟨_, _, in6, ti6, F, F.binds (ps := ["self", "place"]) fun _ _ _ _ _ _ us hl => match us, hl with | [_, _], _ => rfl⟩
  have kn6 : Kn K mg E6 6 := ⟨exc6, xfc6, np6, PySem.W.mg_none_of X G zVE, kit_ve vc6, ⟨S, PySem.W.mg_of X G aS, kit_sub iS tS sc6, PySem.W.exm_ref eS hS tS sc6⟩,
    ⟨_, PySem.W.mg_of X G aE0, by rw [kit_ref n6_0 iE0 tE0 s6_0]; rfl⟩,
    ⟨_, PySem.W.mg_of X G aE1, by rw [kit_ref n6_1 iE1 tE1 s6_1]; rfl⟩,
    ⟨_, PySem.W.mg_of X G aE2, by rw [kit_ref n6_2 iE2 tE2 s6_2]; rfl⟩,
    ⟨_, PySem.W.mg_of X G aE3, by rw [kit_ref n6_3 iE3 tE3 s6_3]; rfl⟩,
    ⟨_, PySem.W.mg_of X G aE4, by rw [kit_ref n6_4 iE4 tE4 s6_4]; rfl⟩,
    ⟨_, PySem.W.mg_of X G aE5, by rw [kit_ref n6_5 iE5 tE5 s6_5]; rfl⟩,
    ⟨_, PySem.W.mg_of X G aE6, by rw [kit_same]; rfl⟩,
    ⟨_, PySem.W.mg_of X G aE7, by rw [kit_ref n6_7 iE7 tE7 s6_7]; rfl⟩,
    ⟨_, PySem.W.mg_of X G aE8, by rw [kit_ref n6_8 iE8 tE8 s6_8]; rfl⟩,
    ⟨_, PySem.W.mg_of X G aE9, by rw [kit_ref n6_9 iE9 tE9 s6_9]; rfl⟩,
    ⟨_, PySem.W.mg_of X G aE10, by rw [kit_ref n6_10 iE10 tE10 s6_10]; rfl⟩,
    ⟨_, PySem.W.mg_of X G aE11, by rw [kit_ref n6_11 iE11 tE11 s6_11]; rfl⟩⟩
  have B : Blt mg := ⟨PySem.W.mg_none_of X G z_len, PySem.W.mg_none_of X G z_isinstance, PySem.W.mg_none_of X G z_int, PySem.W.mg_none_of X G z_bool, PySem.W.mg_none_of X G z_tuple, PySem.W.mg_none_of X G z_str, PySem.W.mg_none_of X G z_range, PySem.W.mg_none_of X G z_enumerate, PySem.W.mg_none_of X G z_list⟩
  have F := fun_mk (st := sLaw) l14 c14 k14
  have e := hfa.symm.trans (PySem.W.mg_of X G a14)
  cases e
  refine ⟨PySem.W.fnOf "law" "law" (defArgs sLaw) (defBody sLaw) (defScope sLaw) .none kV14 dc14 pm14 an14 cd14 ct14, fun s v => .of_eq rfl, fun base _ _ => ?_⟩
  have cI := ok_integer (P := l.prog) (w := w) (base := base) D0 B
  have erO := erc_ord (P := l.prog) (w := w) (base := base) (PySem.W.mg_of X G aE6) oex6 np6 nit6
  have cCO := ok_checkOrd (P := l.prog) (w := w) (base := base) D4 B erO cI
  have cLE := ok_least (P := l.prog) (w := w) (base := base) D1 B cCO
  have cPT := ok_parts (P := l.prog) (w := w) (base := base) D3 B
  have zsum := PySem.W.mg_none_of X G z_sum
  have cRB := ok_robin (P := l.prog) (w := w) (base := base) D2 B zsum cLE cPT
  have cM := ok_mix (P := l.prog) (w := w) (base := base) D5
  have cS := ok_store (P := l.prog) (w := w) (base := base) D6 B.len
  have cP := ok_pick (P := l.prog) (w := w) (base := base) D7 cM B.len
  have cJ := ok_int (P := l.prog) (w := w) (base := base) D8 B
  have cN := ok_kind (P := l.prog) (w := w) (base := base) (by decide) D9 B kn6
  have cPA := ok_parted (P := l.prog) (w := w) (base := base) D10 B
  have cOR := ok_orders (P := l.prog) (w := w) (base := base) D11 B
  have cPI := ok_partit (P := l.prog) (w := w) (base := base) D12 B
  have cTW := ok_twice (P := l.prog) (w := w) (base := base) D13 B kn6 cRB cN
  exact ok_law F B zsum (PySem.W.mg_none_of X G z_min) (PySem.W.mg_none_of X G z_sorted) cS cP cPA cOR cPI cTW cJ cLE cRB
end Vk
namespace Vk
open PySem L2
theorem walk {l : PySem.W.OpenLaw} {q : Program} {loose : List Str} {XP : (Str → Option Value) → Heap → Prop} {YP : World → Heap → Prop} {d : DefRec} {K : Params → PySem.W.Frag} (hn : l.most = some 63) (hdf : d.params.defaults = [])
    (hY : ∀ (w : World) (h : Heap), YP w h → (K w.params).In h)
    (F : ∀ (w : World) (mg : Str → Option Value) (fa : Addr) (h : Heap), (K w.params).In h → h.Ns mainGlobals mg → mg d.name = some (.ref fa) →
      ∃ fd : FuncData, (∀ (s : Shared) (u : Value), BindsTo s fd ⟨[u], []⟩ [("script", u)]) ∧ ∀ base : Heap, (K w.params).In base → base.Ns mainGlobals mg → FnOk l.prog w (K w.params) mg base CX0 7 fa fd ["script"] (spLaw (K w.params))) :
    PySem.W.WalkO q loose XP YP l.row.toRowW d [] (fun f vs => PySem.call f vs) :=
  L2.walk_of (n := 63) (k := 7) (x := "script") (CX := fun _ => CX0) (sp := fun w => spLaw (K w.params)) hn (by decide) hdf ⟨rfl, by decide, by decide⟩ hY F (fun _ _ a ns hl _ hS => ⟨a, ns, rfl, hS, hl, fun _ => rfl⟩) fun _ _ _ _ _ z => z
end Vk
open PySem PySem.W PyProof.Rows in
set_option maxRecDepth 100000 in
set_option maxHeartbeats 0 in
theorem PySem.Challenge.cw_blindslots_k40_whole_orders_counted_holds : PySem.Challenge.rw_blindslots_k40_whole_orders_counted.Holds := by
  w_on; o_law; k_head; (case hw => w_witness2)
  k_fill
  refine Vk.walk (l := PySem.Challenge.rw_blindslots_k40_whole_orders_counted) rfl rfl (fun w h Y => PySem.W.kIn_of Y) ?F
  case F =>
    intro w mg fa h KX G hmg
    refine' Vk.all_mk KX G hmg ?a0 ?l0 ?c0 ?k0 ?a1 ?l1 ?c1 ?k1 ?a2 ?l2 ?c2 ?k2 ?a3 ?l3 ?c3 ?k3 ?a4 ?l4 ?c4 ?k4 ?a5 ?l5 ?c5 ?k5 ?a6 ?l6 ?c6 ?k6 ?a7 ?l7 ?c7 ?k7 ?a8 ?l8 ?c8 ?k8 ?a9 ?l9 ?c9 ?k9 ?a10 ?l10 ?c10 ?k10 ?a11 ?l11 ?c11 ?k11 ?a12 ?l12 ?c12 ?k12 ?a13 ?l13 ?c13 ?k13 ?a14 ?l14 ?c14 ?k14 ?z_len ?z_isinstance ?z_int ?z_bool ?z_tuple ?z_str ?z_range ?z_enumerate ?z_list ?z_min ?z_sorted ?z_sum ?aS ?iS ?hS ?tS ?eS ?spG ?tkG ?zVE ?aE0 ?iE0 ?tE0 ?aE1 ?iE1 ?tE1 ?aE2 ?iE2 ?tE2 ?aE3 ?iE3 ?tE3 ?aE4 ?iE4 ?tE4 ?aE5 ?iE5 ?tE5 ?aE6 ?iE6 ?tE6 ?aE7 ?iE7 ?tE7 ?aE8 ?iE8 ?tE8 ?aE9 ?iE9 ?tE9 ?aE10 ?iE10 ?tE10 ?aE11 ?iE11 ?tE11 ?x6_ ?sa6 ?ga6 ?gg6 ?np6 ?in6 ?ti6 ?li6 ?ci6 ?ki6 ?kc6 ?ec6 ?hc6 ?cc6 ?mc6 ?vc6 ?sc6 ?s6_0 ?n6_0 ?s6_1 ?n6_1 ?s6_2 ?n6_2 ?s6_3 ?n6_3 ?s6_4 ?n6_4 ?s6_5 ?n6_5 ?s6_7 ?n6_7 ?s6_8 ?n6_8 ?s6_9 ?n6_9 ?s6_10 ?n6_10 ?s6_11 ?n6_11
    (case a0 => k_is)
    (case l0 => k_is)
    (case c0 => k_is)
    (case k0 => k_is)
    (case a1 => k_is)
    (case l1 => k_is)
    (case c1 => k_is)
    (case k1 => k_is)
    (case a2 => k_is)
    (case l2 => k_is)
    (case c2 => k_is)
    (case k2 => k_is)
    (case a3 => k_is)
    (case l3 => k_is)
    (case c3 => k_is)
    (case k3 => k_is)
    (case a4 => k_is)
    (case l4 => k_is)
    (case c4 => k_is)
    (case k4 => k_is)
    (case a5 => k_is)
    (case l5 => k_is)
    (case c5 => k_is)
    (case k5 => k_is)
    (case a6 => k_is)
    (case l6 => k_is)
    (case c6 => k_is)
    (case k6 => k_is)
    (case a7 => k_is)
    (case l7 => k_is)
    (case c7 => k_is)
    (case k7 => k_is)
    (case a8 => k_is)
    (case l8 => k_is)
    (case c8 => k_is)
    (case k8 => k_is)
    (case a9 => k_is)
    (case l9 => k_is)
    (case c9 => k_is)
    (case k9 => k_is)
    (case a10 => k_is)
    (case l10 => k_is)
    (case c10 => k_is)
    (case k10 => k_is)
    (case a11 => k_is)
    (case l11 => k_is)
    (case c11 => k_is)
    (case k11 => k_is)
    (case a12 => k_is)
    (case l12 => k_is)
    (case c12 => k_is)
    (case k12 => k_is)
    (case a13 => k_is)
    (case l13 => k_is)
    (case c13 => k_is)
    (case k13 => k_is)
    (case a14 => k_is)
    (case l14 => k_is)
    (case c14 => k_is)
    (case k14 => k_is)
    (case z_len => k_is)
    (case z_isinstance => k_is)
    (case z_int => k_is)
    (case z_bool => k_is)
    (case z_tuple => k_is)
    (case z_str => k_is)
    (case z_range => k_is)
    (case z_enumerate => k_is)
    (case z_list => k_is)
    (case z_min => k_is)
    (case z_sorted => k_is)
    (case z_sum => k_is)
    (case aS => k_is)
    (case iS => k_is)
    (case hS => k_is)
    (case tS => k_is)
    (case eS => k_is)
    (case spG => k_is)
    (case tkG => k_is)
    (case zVE => k_is)
    (case aE0 => k_is)
    (case iE0 => k_is)
    (case tE0 => k_is)
    (case aE1 => k_is)
    (case iE1 => k_is)
    (case tE1 => k_is)
    (case aE2 => k_is)
    (case iE2 => k_is)
    (case tE2 => k_is)
    (case aE3 => k_is)
    (case iE3 => k_is)
    (case tE3 => k_is)
    (case aE4 => k_is)
    (case iE4 => k_is)
    (case tE4 => k_is)
    (case aE5 => k_is)
    (case iE5 => k_is)
    (case tE5 => k_is)
    (case aE6 => k_is)
    (case iE6 => k_is)
    (case tE6 => k_is)
    (case aE7 => k_is)
    (case iE7 => k_is)
    (case tE7 => k_is)
    (case aE8 => k_is)
    (case iE8 => k_is)
    (case tE8 => k_is)
    (case aE9 => k_is)
    (case iE9 => k_is)
    (case tE9 => k_is)
    (case aE10 => k_is)
    (case iE10 => k_is)
    (case tE10 => k_is)
    (case aE11 => k_is)
    (case iE11 => k_is)
    (case tE11 => k_is)
    (case x6_ => k_is)
    (case sa6 => k_is)
    (case ga6 => k_is)
    (case gg6 => k_is)
    (case np6 => k_is)
    (case in6 => k_is)
    (case ti6 => k_is)
    (case li6 => k_is)
    (case ci6 => k_is)
    (case ki6 => k_is)
    (case kc6 => k_is)
    (case ec6 => k_is)
    (case hc6 => k_is)
    (case cc6 => k_is)
    (case mc6 => k_is)
    (case vc6 => k_is)
    (case sc6 => k_is)
    (case s6_0 => k_is)
    (case n6_0 => rfl)
    (case s6_1 => k_is)
    (case n6_1 => rfl)
    (case s6_2 => k_is)
    (case n6_2 => rfl)
    (case s6_3 => k_is)
    (case n6_3 => rfl)
    (case s6_4 => k_is)
    (case n6_4 => rfl)
    (case s6_5 => k_is)
    (case n6_5 => rfl)
    (case s6_7 => k_is)
    (case n6_7 => rfl)
    (case s6_8 => k_is)
    (case n6_8 => rfl)
    (case s6_9 => k_is)
    (case n6_9 => rfl)
    (case s6_10 => k_is)
    (case n6_10 => rfl)
    (case s6_11 => k_is)
    (case n6_11 => rfl)
