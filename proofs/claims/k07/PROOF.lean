import PyProof.Rows.All
import Wide.All
import OpenK.AllK
import Wide.FinOn
import HandS.ForMost
import HandS.Exc
import HandS.TryOnly
import HandS.ExcOwn
import HandS.WordsExc
import HandS.Codes
import HandS.IsInst
import HandS.Walk
import HandS.AnyAll
import KE.GoesEnum
import KE.KExcIs
import HandS.ExcInit
import HandS.ExcField
import HandS.ExcIs
import HandS.SetFor
import HandS.TupAny
import HandS.TupMul
import PyProof.EqAt
import PyProof.NeKinds
import HandS.Strs
import HandS.Style
import KE.KRevSl
import HandS.EndTab
import HandS.EndBits
import PySem.Challenge.RW_blindslots_k07_presence
set_option Elab.async false
set_option linter.all false
set_option maxRecDepth 100000
set_option maxHeartbeats 8000000
/-! what every text of ours needs: a def as it stands, its call, the drawing store -/
namespace Vk
open PySem PySem.Spec PyProof.Rows L2
/-- a def of the module's top -/
structure Df (K : PySem.W.Frag) (mg : Str → Option Value) (x : Str) (st : Stmt) (ps : List Str) : Prop where
  ex : ∃ f fd, mg x = some (.ref f) ∧ Fun K x x st f fd ∧ Binds K fd ps []
/-- its promise -/
structure Cl (P : Program) (w : World) (K : PySem.W.Frag) (mg : Str → Option Value) (base : Heap) (CX : CXT) (k : Nat) (x : Str) (ps : List Str) (sp : Sp) : Prop where
  ex : ∃ f fd, mg x = some (.ref f) ∧ PySem.W.keepIn K (.ref f) = true ∧ Binds K fd ps [] ∧ FnOk P w K mg base CX k f fd ps sp
section
variable {P : Program} {w : World} {K : PySem.W.Frag} {mg : Str → Option Value} {base : Heap}
theorem cl0 {x : Str} {st : Stmt} {N ps : List Str} {k : Nat} {sp : Sp} (D : Df K mg x st ps) (S : FnScope N ps (defScope st)) (len : ∀ vs H Q E, sp vs H Q E → vs.length = ps.length)
    (body : ∀ (f : Addr) (cdv : Value) (A : Around) (outer : List Env) (s : Shared) (H : Hp) (vs : List V) (Q : VK) (E : XK), Room k (A.deeper (envOfC x (defScope st) s.heap.objs.size f cdv)) → sp vs H Q E →
      ∃ t, PSs (cxOf CX0 P w K mg base N x (defScope st) f cdv A outer s H E).nox (defBody st) t ∧ t { nx := fun _ H' => Q .non H', rt := Q } (start N vs) H) : Cl P w K mg base CX0 (k + 1) x ps sp := by
  obtain ⟨f, fd, hm, F, b⟩ := D.ex
  exact ⟨f, fd, hm, F.kp, b, F.ok S len (body f)⟩
theorem clX {x : Str} {st : Stmt} {N ps : List Str} {k : Nat} {sp : Sp} (D : Df K mg x st ps) (S : FnScope N ps (defScope st)) (len : ∀ vs H Q E, sp vs H Q E → vs.length = ps.length)
    (body : ∀ (f : Addr) (cdv : Value) (A : Around) (outer : List Env) (s : Shared) (H : Hp) (vs : List V) (Q : VK) (E : XK), Room k (A.deeper (envOfC x (defScope st) s.heap.objs.size f cdv)) → sp vs H Q E →
      ∃ t, PSs (cxOf (L2.CX P w) P w K mg base N x (defScope st) f cdv A outer s H E) (defBody st) t ∧ t { nx := fun _ H' => Q .non H', rt := Q } (start N vs) H) : Cl P w K mg base (L2.CX P w) (k + 1) x ps sp := by
  obtain ⟨f, fd, hm, F, b⟩ := D.ex
  exact ⟨f, fd, hm, F.kp, b, F.okX S len (body f)⟩
end
def tCal (sp : Sp) (t : TA) : TE := fun σ H Q => t σ H fun vs H1 => sp (vs ++ []) H1 Q E0
section
variable {X : Cx}
theorem pc {x : Str} {ps : List Str} {sp : Sp} {j k : Nat} {e : Expr} {es : List Expr} {t : TA} {p pos : Pos} (c : Cl X.prog X.w X.K X.mg X.base CX0 k x ps sp) (hr : Room j X.A) (hk : k ≤ j) (ha : PA X (e :: es) t) (hg : Gl X x := by rfl)
    (hdb : (x == ("__debug__" : Str)) = false := by decide) (he : starEach (e :: es) X.env = (false, eval e X.env) :: starEach es X.env := by rfl) (hpl : (backTo pos (starEach es X.env)).any (·.1) = false := by rfl) :
    PE X (.Call (.Name x p) (e :: es) [] pos) (tCal sp t) := by
  obtain ⟨f, fd, hm, kp, b, F⟩ := c.ex
  exact pe_call F (hr.mono hk) hg hm kp b .nil pass0 ha hdb he hpl
end
/-! ### heaps -/
def NoTbl : HO → Prop
  | .tbl _ => False
  | _ => True
/-- all that was tracked is as it was, but that tables of code objects may have grown -/
structure Same (H H' : Hp) : Prop where
  at_ : ∀ b o, H b = some o → NoTbl o → H' b = some o
  has : ∀ b, H b ≠ none → H' b ≠ none
  tab : ∀ P, GxR.TabG H P → GxR.TabG H' P
theorem Same.at {H H' : Hp} {b : Addr} {o : HO} (s : Same H H') (h : H b = some o) (n : NoTbl o := by exact True.intro) : H' b = some o := s.at_ b o h n
theorem Same.refl (H : Hp) : Same H H := ⟨fun _ _ h _ => h, fun _ h => h, fun _ h => h⟩
theorem Same.trans {H H1 H2 : Hp} (a : Same H H1) (b : Same H1 H2) : Same H H2 := ⟨fun c o h n => b.at_ c o (a.at_ c o h n) n, fun c h => b.has c (a.has c h), fun P h => b.tab P (a.tab P h)⟩
theorem Same.of {H H' : Hp} (h : ∀ b o, H b = some o → H' b = some o) : Same H H' := by
  refine ⟨fun b o e _ => h b o e, fun b e => ?_, fun P ⟨ps, e, t⟩ => ⟨ps, h _ _ e, t⟩⟩
  cases q : H b with
  | none => exact absurd q e
  | some o =>
    rw [h b o q]
    exact fun z => nomatch z
theorem Same.free {H H' : Hp} (e : Same H H') {l : Addr} (h : H' l = none) : H l = none := by
  cases q : H l with
  | none => rfl
  | some o => exact absurd h (e.has l (by rw [q]; exact fun z => nomatch z))
theorem Same.seq {K : PySem.W.Frag} {H H' : Hp} {a : Addr} {xs : List V} (e : Same H H') (h : SqL K H a xs) : SqL K H' a xs := by
  rcases h with (h | ⟨o, h⟩) | h
  · exact .inl (.inl (e.at h))
  · exact .inl (.inr ⟨o, e.at h⟩)
  · exact .inr h
theorem ne_has {H : Hp} {a p : Addr} (h : H a ≠ none) (n : H p = none) : p ≠ a := fun z => h (z ▸ n)
theorem has_of {H : Hp} {a : Addr} {o : HO} (h : H a = some o) : H a ≠ none := by
  rw [h]
  exact fun z => nomatch z
/-- a table grows -/
theorem same_tabbed {P : Addr} {H H' : Hp} (h : GxR.Tabbed P H H') (h0 : GxR.TabG H P) : Same H H' := by
  obtain ⟨⟨ps', e', t'⟩, k⟩ := h
  obtain ⟨ps, e, t⟩ := h0
  refine ⟨fun b o q n => ?_, fun b q => ?_, fun Q hq => ?_⟩
  · by_cases z : b = P
    · rw [z, e] at q
      cases q
      exact False.elim n
    · rw [k b z]
      exact q
  · by_cases z : b = P
    · rw [z, e']
      exact fun z => nomatch z
    · rw [k b z]
      exact q
  · by_cases z : Q = P
    · rw [z]
      exact ⟨ps', e', t'⟩
    · obtain ⟨qs, f, u⟩ := hq
      exact ⟨qs, by rw [k Q z]; exact f, u⟩
/-- the heap without what stands at a -/
def Off (a : Addr) (H : Hp) : Hp := fun b => if b = a then none else H b
theorem off_ne {a b : Addr} {H : Hp} (h : b ≠ a) : Off a H b = H b := if_neg h
theorem off_same {a : Addr} {H : Hp} : Off a H a = none := if_pos rfl
theorem off_some {a b : Addr} {H : Hp} {o : HO} (e : Off a H b = some o) : b ≠ a ∧ H b = some o := by
  by_cases h : b = a
  · rw [h, off_same] at e; cases e
  · exact ⟨h, by rw [off_ne h] at e; exact e⟩
theorem off_sub (a : Addr) (H : Hp) : Same (Off a H) H := .of fun b o e => (off_some e).2
theorem off_mono {a : Addr} {H H' : Hp} (s : Same H H') : Same (Off a H) (Off a H') := by
  refine ⟨fun b o e n => ?_, fun b e => ?_, fun P ⟨ps, e, t⟩ => ?_⟩
  · obtain ⟨h1, h2⟩ := off_some e
    rw [off_ne h1]
    exact s.at_ b o h2 n
  · by_cases h : b = a
    · rw [h, off_same] at e
      exact absurd rfl e
    · rw [off_ne h] at e ⊢
      exact s.has b e
  · obtain ⟨h1, h2⟩ := off_some e
    obtain ⟨qs, f, u⟩ := s.tab P ⟨ps, h2, t⟩
    exact ⟨qs, by rw [off_ne h1]; exact f, u⟩
theorem off_upd {a : Addr} {H : Hp} {o : HO} : Off a (upd H a o) = Off a H := by
  funext b
  by_cases h : b = a
  · rw [h, off_same, off_same]
  · rw [off_ne h, off_ne h, upd_ne h]
theorem same_new {H : Hp} {p : Addr} {o : HO} (h : H p = none) : Same H (upd H p o) := .of fun b u e => by
  rw [upd_ne (ne_of_none e h)]; exact e
theorem same_seqT {K : PySem.W.Frag} {H H' : Hp} {a : Addr} {xs : List V} (e : Same H H') (h : SqT K H a xs) : SqT K H' a xs := by
  rcases h with (h | ⟨o, h⟩) | h
  · exact .inl (.inl (e.at h))
  · exact .inl (.inr ⟨o, e.at h⟩)
  · exact .inr h
mutual
theorem dp_same {K : PySem.W.Frag} {H H' : Hp} (e : Same H H') : ∀ {v : V} {d : PyData}, Dp K H v d → Dp K H' v d
  | _, _, .non => .non
  | _, _, .bl b => .bl b
  | _, _, .int i => .int i
  | _, _, .str x => .str x
  | _, _, .lst h r => .lst (e.seq h) (dps_same e r)
  | _, _, .tup h r => .tup (same_seqT e h) (dps_same e r)
theorem dps_same {K : PySem.W.Frag} {H H' : Hp} (e : Same H H') : ∀ {vs : List V} {ds : List PyData}, DpAll K H vs ds → DpAll K H' vs ds
  | _, _, .nil => .nil
  | _, _, .cons h r => .cons (dp_same e h) (dps_same e r)
end
/-! ### the law's store: cells, next index, digits, all mixed, draws so far (at most n) -/
structure Sto (sc a : Addr) (n : Int) (H : Hp) : Prop where
  ex : ∃ (cs : List Int) (i dg mx c : Int), H a = some (.lst [.ref sc, .int i, .int dg, .int mx, .int c]) ∧ sc ≠ a ∧ H sc = some (.lst (cs.map V.int)) ∧ cs.length ≤ 63 ∧ 0 ≤ i ∧ 0 ≤ dg ∧ 0 ≤ c ∧ c ≤ n
theorem Sto.more {sc a : Addr} {n m : Int} {H : Hp} (s : Sto sc a n H) (h : n ≤ m) : Sto sc a m H := by
  obtain ⟨x2, x3, x4, x5, x6, h1, h2, h3, h4, h5, h6, h7, h8⟩ := s.ex
  exact ⟨x2, x3, x4, x5, x6, h1, h2, h3, h4, h5, h6, h7, by omega⟩
/-- all else stands -/
def Kept (a : Addr) (H H' : Hp) : Prop := Same (Off a H) (Off a H')
theorem Kept.refl (a : Addr) (H : Hp) : Kept a H H := Same.refl _
theorem Kept.trans {a : Addr} {H H1 H2 : Hp} (x : Kept a H H1) (y : Kept a H1 H2) : Kept a H H2 := Same.trans x y
theorem kept_same {a : Addr} {H H' : Hp} (s : Same H H') : Kept a H H' := off_mono s
theorem Sto.same {sc a : Addr} {n : Int} {H H' : Hp} (s : Sto sc a n H) (e : Same H H') : Sto sc a n H' := by
  obtain ⟨x2, x3, x4, x5, x6, h1, h2, h3, h4⟩ := s.ex
  exact ⟨x2, x3, x4, x5, x6, e.at h1, h2, e.at h3, h4⟩
theorem Sto.put {sc a : Addr} {n : Int} {H : Hp} {cs : List Int} {i dg mx c : Int} (hs : sc ≠ a) (hq : H sc = some (.lst (cs.map V.int))) (hl : cs.length ≤ 63) (hi : 0 ≤ i) (hd : 0 ≤ dg) (hc : 0 ≤ c) (hn : c ≤ n) :
    Sto sc a n (upd H a (.lst [.ref sc, .int i, .int dg, .int mx, .int c])) :=
  ⟨cs, i, dg, mx, c, upd_same, hs, by rw [upd_ne hs]; exact hq, hl, hi, hd, hc, hn⟩
/-- another list changes -/
theorem Sto.other {sc a l : Addr} {n : Int} {H : Hp} {o : HO} (s : Sto sc a n H) (h1 : l ≠ a) (h2 : l ≠ sc) : Sto sc a n (upd H l o) := by
  obtain ⟨x2, x3, x4, x5, x6, g1, g2, g3, g4⟩ := s.ex
  exact ⟨x2, x3, x4, x5, x6, by rw [upd_ne h1.symm]; exact g1, g2, by rw [upd_ne h2.symm]; exact g3, g4⟩
theorem Sto.ne {sc a p : Addr} {n : Int} {H : Hp} (s : Sto sc a n H) (h : H p = none) : p ≠ a := by
  obtain ⟨_, _, _, _, _, h1, _⟩ := s.ex
  exact (ne_of_none h1 h).symm
theorem Sto.ne2 {sc a p : Addr} {n : Int} {H : Hp} (s : Sto sc a n H) (h : H p = none) : p ≠ sc := by
  obtain ⟨_, _, _, _, _, _, _, h1, _⟩ := s.ex
  exact (ne_of_none h1 h).symm
theorem kept_put {a : Addr} {H : Hp} {o : HO} : Kept a H (upd H a o) := by unfold Kept; rw [off_upd]; exact Same.refl _
theorem Sto.hasA {sc a : Addr} {n : Int} {H : Hp} (s : Sto sc a n H) : H a ≠ none := by
  obtain ⟨_, _, _, _, _, h1, _⟩ := s.ex
  exact has_of h1
theorem Sto.tab {sc a P : Addr} {n : Int} {H : Hp} (s : Sto sc a n H) (t : GxR.TabG H P) : GxR.TabG (Off a H) P := by
  obtain ⟨_, _, _, _, _, h1, _⟩ := s.ex
  obtain ⟨ps, e, u⟩ := t
  exact ⟨ps, by rw [off_ne (ne_of h1 e (fun z => nomatch z)).symm]; exact e, u⟩
theorem Kept.tab {sc a P : Addr} {n : Int} {H H' : Hp} (k : Kept a H H') (s : Sto sc a n H) (t : GxR.TabG H P) : GxR.TabG H' P := (off_sub a H').tab P (Same.tab k P (s.tab t))
end Vk
namespace Vk
open PySem
def top (i : Nat) : Stmt := PySem.Challenge.pw_blindslots_k07_presence.main.body.getD i (.Pass ⟨0, 0, 0, 0⟩)
abbrev sInteger : Stmt := top 15
abbrev sTupleOf : Stmt := top 16
abbrev sName : Stmt := top 17
abbrev sCheck : Stmt := top 19
abbrev sCount : Stmt := top 20
abbrev sHas : Stmt := top 21
abbrev sEach : Stmt := top 22
abbrev sIsJob : Stmt := top 23
abbrev sArrival : Stmt := top 24
abbrev sWaits : Stmt := top 25
abbrev sJoined : Stmt := top 27
abbrev sPresence : Stmt := top 29
abbrev sCheckLog : Stmt := top 30
abbrev sCheckPresent : Stmt := top 31
abbrev sPresentBy : Stmt := top 32
abbrev sPresent : Stmt := top 33
abbrev sMix : Stmt := top 35
abbrev sStore : Stmt := top 36
abbrev sPick : Stmt := top 37
abbrev sNames : Stmt := top 38
abbrev sBefore : Stmt := top 39
abbrev sJobs : Stmt := top 40
abbrev sInt : Stmt := top 41
abbrev sKind : Stmt := top 42
abbrev sPresentL : Stmt := top 43
abbrev sLog : Stmt := top 44
abbrev sLogFault : Stmt := top 45
abbrev sBadLog : Stmt := top 46
abbrev sDue : Stmt := top 47
abbrev sRight : Stmt := top 48
abbrev sLaterRight : Stmt := top 49
abbrev sLaw : Stmt := top 50
end Vk
/-! values as data: kinds, integers, tuples -/
namespace Vk
open PySem PySem.Spec PyProof.Rows L2
def tyN : PyData → String
  | .none => "NoneType"
  | .bool _ => "bool"
  | .int _ => "int"
  | .str _ => "str"
  | .list _ => "list"
  | .tuple _ => "tuple"
  | .dict _ => "dict"
theorem dp_ty {K : PySem.W.Frag} {H : Hp} {v : V} {d : PyData} (h : Dp K H v d) : TyX K H v (.type (tyN d)) := by
  cases h with
  | non => exact .base .non
  | bl b => exact .base (.bl b)
  | int i => exact .base (.int i)
  | str x => exact .base (.str x)
  | lst q _ =>
    rcases q with (q | ⟨o, q⟩) | ⟨o, its, n, hk, hc, _⟩
    · exact .base (.lst q)
    · exact .base (.frz q)
    · exact .kList hk hc
  | tup q _ =>
    rcases q with (q | ⟨o, q⟩) | ⟨o, its, n, hk, hc, _⟩
    · exact .base (.tup q)
    · exact .fTuple q
    · exact .kTuple hk hc
def isIntD : PyData → Bool
  | .bool _ => true
  | .int _ => true
  | _ => false
def isBoolD : PyData → Bool
  | .bool _ => true
  | _ => false
def isTupD : PyData → Bool
  | .tuple _ => true
  | _ => false
def isStrD : PyData → Bool
  | .str _ => true
  | _ => false
section
variable {K : PySem.W.Frag} {H : Hp} {v : V} {d : PyData}
theorem kit_int (h : Dp K H v d) : PySem.W.kitOne K (.type (tyN d)) (.type "int") = some (isIntD d) := by
  cases h with
  | non => exact kit_ty (show kitB "NoneType" "int" = some false by decide +kernel)
  | bl _ => exact kit_ty (show kitB "bool" "int" = some true by decide +kernel)
  | int _ => exact kit_ty (show kitB "int" "int" = some true by decide +kernel)
  | str _ => exact kit_ty (show kitB "str" "int" = some false by decide +kernel)
  | lst _ _ => exact kit_ty (show kitB "list" "int" = some false by decide +kernel)
  | tup _ _ => exact kit_ty (show kitB "tuple" "int" = some false by decide +kernel)
theorem kit_bool (h : Dp K H v d) : PySem.W.kitOne K (.type (tyN d)) (.type "bool") = some (isBoolD d) := by
  cases h with
  | non => exact kit_ty (show kitB "NoneType" "bool" = some false by decide +kernel)
  | bl _ => exact kit_ty (show kitB "bool" "bool" = some true by decide +kernel)
  | int _ => exact kit_ty (show kitB "int" "bool" = some false by decide +kernel)
  | str _ => exact kit_ty (show kitB "str" "bool" = some false by decide +kernel)
  | lst _ _ => exact kit_ty (show kitB "list" "bool" = some false by decide +kernel)
  | tup _ _ => exact kit_ty (show kitB "tuple" "bool" = some false by decide +kernel)
theorem kit_tup (h : Dp K H v d) : PySem.W.kitOne K (.type (tyN d)) (.type "tuple") = some (isTupD d) := by
  cases h with
  | non => exact kit_ty (show kitB "NoneType" "tuple" = some false by decide +kernel)
  | bl _ => exact kit_ty (show kitB "bool" "tuple" = some false by decide +kernel)
  | int _ => exact kit_ty (show kitB "int" "tuple" = some false by decide +kernel)
  | str _ => exact kit_ty (show kitB "str" "tuple" = some false by decide +kernel)
  | lst _ _ => exact kit_ty (show kitB "list" "tuple" = some false by decide +kernel)
  | tup _ _ => exact kit_ty (show kitB "tuple" "tuple" = some true by decide +kernel)
theorem kit_strT (h : Dp K H v d) : PySem.W.kitOne K (.type (tyN d)) (.type "str") = some (isStrD d) := by
  cases h with
  | non => exact kit_ty (show kitB "NoneType" "str" = some false by decide +kernel)
  | bl _ => exact kit_ty (show kitB "bool" "str" = some false by decide +kernel)
  | int _ => exact kit_ty (show kitB "int" "str" = some false by decide +kernel)
  | str _ => exact kit_ty (show kitB "str" "str" = some true by decide +kernel)
  | lst _ _ => exact kit_ty (show kitB "list" "str" = some false by decide +kernel)
  | tup _ _ => exact kit_ty (show kitB "tuple" "str" = some false by decide +kernel)
theorem dp_tuple {ds : List PyData} (h : Dp K H v (.tuple ds)) : ∃ a xs, v = .ref a ∧ SqT K H a xs ∧ DpAll K H xs ds := by
  cases h with
  | tup q r => exact ⟨_, _, rfl, q, r⟩
theorem dp_int {i : Int} (h : Dp K H v (.int i)) : v = .int i := by
  cases h
  rfl
theorem dp_bool {i : Bool} (h : Dp K H v (.bool i)) : v = .bl i := by
  cases h
  rfl
theorem dp_str {i : Str} (h : Dp K H v (.str i)) : v = .str i := by
  cases h
  rfl
theorem dp_none (h : Dp K H v .none) : v = .non := by
  cases h
  rfl
theorem dps_len : ∀ {vs : List V} {ds : List PyData}, DpAll K H vs ds → vs.length = ds.length
  | _, _, .nil => rfl
  | _, _, .cons _ r => congrArg (· + 1) (dps_len r)
theorem dps_get : ∀ {vs : List V} {ds : List PyData} {i : Nat} {d : PyData}, DpAll K H vs ds → ds[i]? = some d → ∃ v, vs[i]? = some v ∧ Dp K H v d
  | _, _, 0, _, .cons h _, e => by cases e; exact ⟨_, rfl, h⟩
  | _, _, i + 1, _, .cons _ r, e => by
    obtain ⟨v, h1, h2⟩ := dps_get r (i := i) (by simpa using e)
    exact ⟨v, by simpa using h1, h2⟩
theorem dps_getV : ∀ {vs : List V} {ds : List PyData} {i : Nat} {v : V}, DpAll K H vs ds → vs[i]? = some v → ∃ d, ds[i]? = some d ∧ Dp K H v d
  | _, _, 0, _, .cons h _, e => by cases e; exact ⟨_, rfl, h⟩
  | _, _, i + 1, _, .cons _ r, e => by
    obtain ⟨v, h1, h2⟩ := dps_getV r (i := i) (by simpa using e)
    exact ⟨v, by simpa using h1, h2⟩
theorem dps_app : ∀ {vs us : List V} {ds es : List PyData}, DpAll K H vs ds → DpAll K H us es → DpAll K H (vs ++ us) (ds ++ es)
  | _, _, _, _, .nil, h => h
  | _, _, _, _, .cons h r, q => .cons h (dps_app r q)
theorem dps_take : ∀ {vs : List V} {ds : List PyData} (n : Nat), DpAll K H vs ds → DpAll K H (vs.take n) (ds.take n)
  | _, _, 0, _ => .nil
  | _, _, n + 1, .nil => .nil
  | _, _, n + 1, .cons h r => .cons h (dps_take n r)
theorem dps_drop : ∀ {vs : List V} {ds : List PyData} (n : Nat), DpAll K H vs ds → DpAll K H (vs.drop n) (ds.drop n)
  | _, _, 0, h => h
  | _, _, n + 1, .nil => .nil
  | _, _, n + 1, .cons h r => dps_drop n r
/-- flat data -/
def flatD : PyData → Bool
  | .none => true
  | .bool _ => true
  | .int _ => true
  | .str _ => true
  | _ => false
theorem dp_flat (h : Dp K H v d) : flatV v = flatD d := by
  cases h <;> rfl
end
/-- an integer from a least one on -/
def integerD (least : Int) : PyData → Bool
  | .int i => decide (least ≤ i)
  | _ => false
def tupleND (n : Int) : PyData → Bool
  | .tuple ds => decide ((ds.length : Int) = n)
  | _ => false
/-! ### their defs' promises -/
def spInteger (K : PySem.W.Frag) : Sp := fun vs H Q _ => ∃ (v : V) (d : PyData) (least : Int), vs = [v, .int least] ∧ Dp K H v d ∧ Q (.bl (integerD least d)) H
def spTupleOf (K : PySem.W.Frag) : Sp := fun vs H Q _ => ∃ (v : V) (d : PyData) (n : Int), vs = [v, .int n] ∧ Dp K H v d ∧ Q (.bl (tupleND n d)) H
structure Blt (mg : Str → Option Value) : Prop where
  len : mg "len" = none
  isi : mg "isinstance" = none
  int : mg "int" = none
  bool : mg "bool" = none
  tuple : mg "tuple" = none
  str : mg "str" = none
  range : mg "range" = none
  enum : mg "enumerate" = none
  list : mg "list" = none
/-- isinstance(e, T), T a built-in type -/
def tIsi (K : PySem.W.Frag) (T : String) (te : TE) : TE := tCB (rIsi K) (tCons te (tCons (tC (.ty T)) tNil))
theorem isi_go {K : PySem.W.Frag} {T : String} {te : TE} {σ : L2.St} {H H1 : Hp} {v : V} {d : PyData} {b : Bool} {Q : VK} (h : ∀ R : VK, R v H1 → te σ H R) (hd : Dp K H1 v d) (k : PySem.W.kitOne K (.type (tyN d)) (.type T) = some b) (q : Q (.bl b) H1) : tIsi K T te σ H Q :=
  h _ ⟨v, .ty T, _, _, b, rfl, .ty T, dp_ty hd, k, q⟩
end Vk
namespace Vk
open PySem PySem.Spec PyProof.Rows L2
section
variable {P : Program} {w : World} {K : PySem.W.Frag} {mg : Str → Option Value} {base : Heap}
/-! ### _law_mix -/
def spMix : Sp := fun vs H Q _ => ∃ (n t : Int), vs = [.int n, .int t] ∧ 0 ≤ t ∧ t ≤ 10000000 ∧ ∀ r : Int, 0 ≤ r → r < 2147483648 → Q (.int r) H
theorem scMix : FnScope ["number", "turn", "value"] ["number", "turn"] (defScope sMix) := ⟨rfl, rfl, rfl, by decide +kernel, rfl, by decide +kernel, by decide +kernel⟩
theorem ok_mix (D : Df K mg "_law_mix" sMix ["number", "turn"]) : Cl P w K mg base CX0 1 "_law_mix" ["number", "turn"] spMix := by
  refine cl0 D scMix (fun vs H Q E h => ?_) (fun f cdv A outer s H vs Q E hr h => ?_)
  · obtain ⟨n, t, rfl, _⟩ := h
    rfl
  · obtain ⟨n, t, rfl, h0, h1, k⟩ := h
    refine ⟨_, pss_cons (ps_set (i := 2) scMix.nd rfl (Or.inl rfl) (pe_op op_mod (pe_op op_add (pe_op op_add (pe_op op_add (pe_op op_mod (pv 0) pe_int) (pe_op op_mul (pe_op op_mul pe_int (pv 1)) (pv 1))) (pe_op op_mul pe_int (pv 1))) pe_int) pe_int))
      (pss_cons (ps_set (i := 2) scMix.nd rfl (Or.inl rfl) (pe_op op_mod (pe_op op_mul (pe_op op_mod (pe_op op_mul (pv 2) (pv 2)) pe_int) (pv 2)) pe_int))
      (pss_one (ps_ret (pe_op op_fdiv (pe_op op_mod (pe_op op_add (pe_op op_mul (pv 2) pe_int) (pv 1)) pe_int) pe_int)))), ?_⟩
    refine ⟨_, rfl, _, _, rfl, rfl, (by show (0 : Int) < 2147483629; decide), _, rfl, _, _, rfl, rfl, .inl (by decide), _, rfl, _, _, rfl, rfl, .inr ⟨by omega, by omega⟩, _, _, rfl, rfl, _, rfl, _, _, rfl, rfl, .inl (by decide), _, _, rfl, rfl, _, _, rfl, rfl, _, _, rfl, rfl, (by show (0 : Int) < 2147483629; decide), ?_⟩
    generalize hv : (n % 2147483629 + 7919 * t * t + 104729 * t + 13) % 2147483629 = v
    have v0 : 0 ≤ v := by rw [← hv]; exact Int.emod_nonneg _ (by decide)
    have v1 : v < 2147483629 := by rw [← hv]; exact Int.emod_lt_of_pos _ (by decide)
    refine ⟨_, rfl, _, rfl, _, _, rfl, rfl, .inl ⟨by omega, by omega⟩, _, _, rfl, rfl, (by show (0 : Int) < 2147483587; decide), _, rfl, _, _, rfl, rfl, .inr ⟨by omega, by omega⟩, _, _, rfl, rfl, (by show (0 : Int) < 2147483563; decide), ?_⟩
    generalize hu : v * v % 2147483587 * v % 2147483563 = u
    have u0 : 0 ≤ u := by rw [← hu]; exact Int.emod_nonneg _ (by decide)
    have u1 : u < 2147483563 := by rw [← hu]; exact Int.emod_lt_of_pos _ (by decide)
    refine ⟨_, rfl, _, _, rfl, rfl, .inl ⟨by omega, by omega⟩, _, rfl, _, _, rfl, rfl, _, _, rfl, rfl, (by show (0 : Int) < 2147483399; decide), _, _, rfl, rfl, ⟨by decide, by decide⟩, ?_⟩
    exact k _ (by omega) (by omega)
/-! ### _law_store -/
def spStore (K : PySem.W.Frag) : Sp := fun vs H Q _ => ∃ (a : Addr) (ns : List Int), vs = [.ref a] ∧ SqL K H a (ns.map V.int) ∧ ns.length ≤ 63 ∧ ∀ (p sc : Addr) (H' : Hp), Same H H' → H p = none → Sto sc p 0 H' → Q (.ref p) H'
theorem scStore : FnScope ["script", "mixed", "cell"] ["script"] (defScope sStore) := ⟨rfl, rfl, rfl, by decide +kernel, rfl, by decide +kernel, by decide +kernel⟩
theorem map_int_get {ns : List Int} {i : Nat} {y : V} (h : (ns.map V.int)[i]? = some y) : ∃ z, ns[i]? = some z ∧ y = V.int z := by
  rw [List.getElem?_map] at h
  cases e : ns[i]? with
  | none => rw [e] at h; cases h
  | some z => rw [e] at h; exact ⟨z, rfl, (Option.some.inj h).symm⟩
theorem cut63 {ns : List Int} (h : ns.length ≤ 63) : cutV (ns.map V.int) none (some 63) = ns.map V.int := by
  have e1 : HT.sIx (ns.map V.int).length 0 none = 0 := rfl
  have e2 : HT.sIx (ns.map V.int).length (ns.map V.int).length (some 63) = min 63 (ns.map V.int).length := HT.sIx_nat _ _ 63
  unfold cutV
  rw [e1, e2, List.drop_zero]
  exact List.take_of_length_le (by rw [List.length_map]; omega)
theorem ok_store (D : Df K mg "_law_store" sStore ["script"]) (len : mg "len" = none) : Cl P w K mg base CX0 1 "_law_store" ["script"] (spStore K) := by
  refine cl0 D scStore (fun vs H Q E h => ?_) (fun f cdv A outer s H vs Q E hr h => ?_)
  · obtain ⟨a, ns, rfl, _⟩ := h
    rfl
  · obtain ⟨a, ns, rfl, hS, hl, k⟩ := h
    refine ⟨_, pss_cons (ps_set (i := 1) scStore.nd rfl (Or.inl rfl) (pe_callB call_len_seq (by rfl) len PySem.boot_len (pa_cons (pv 0) pa_nil)))
      (pss_cons (ps_for PassesOwn.never rfl (pi_list (pe_slice sl_list (pv 0) po_none (po_some pe_int))) (pg_name (i := 2) scStore.nd rfl (Or.inl rfl))
        (pss_one (ps_set (i := 1) scStore.nd rfl (Or.inl rfl) (pe_op op_mod (pe_op op_add (pe_op op_add (pe_op op_mul (pv 1) pe_int) (pe_op op_mod (pv 2) pe_int)) pe_int) pe_int))))
      (pss_one (ps_ret (pe_lst (pa_cons (pe_slice sl_list (pv 0) po_none (po_some pe_int)) (pa_cons pe_int (pa_cons pe_int (pa_cons (pv 1) (pa_cons pe_int pa_nil))))))))), ?_⟩
    refine ⟨_, rfl, a, _, rfl, .inl hS, ?_⟩
    refine ⟨_, rfl, _, rfl, a, _, rfl, hS, fun p hp => ⟨p, rfl, ⟨_, SqL.of upd_same⟩, ?_⟩⟩
    rw [cut63 hl]
    refine for_list (K := K) (a := p) (xs := ns.map V.int) (fun i σ H' => ∃ (m : Int) (v : Option V), σ = [some (.ref a), some (.int m), v] ∧ 0 ≤ m ∧ m < 2147483648 ∧ H' = upd H p (.lst (ns.map V.int)))
      ⟨_, none, rfl, Int.natCast_nonneg _, by rw [List.length_map]; omega, rfl⟩ (fun i σ H' _ ⟨m, v, _, _, _, e⟩ => by rw [e]; exact SqL.of upd_same) ?_ ?_
    · rintro i y σ H' hi ⟨m, v, rfl, m0, m1, rfl⟩
      obtain ⟨z, _, rfl⟩ := map_int_get hi
      refine ⟨_, rfl, _, _, rfl, rfl, .inl ⟨by omega, by omega⟩, _, rfl, _, _, rfl, rfl, (by show (0 : Int) < 1000000007; decide), _, _, rfl, rfl, _, _, rfl, rfl, _, _, rfl, rfl, (by show (0 : Int) < 2147483629; decide), ?_⟩
      refine ⟨_, _, rfl, Int.emod_nonneg _ (by decide), ?_, rfl⟩
      have q := Int.emod_lt_of_pos (m * 16807 + z % 1000000007 + 11) (show (0 : Int) < 2147483629 by decide)
      omega
    · rintro σ H' ⟨m, v, rfl, m0, m1, rfl⟩
      have s1 : Same H (upd H p (.lst (ns.map V.int))) := same_new hp
      refine ⟨_, rfl, _, rfl, a, _, rfl, s1.seq hS, fun q hq => ?_⟩
      rw [cut63 hl]
      have s2 : Same H (upd (upd H p (.lst (ns.map V.int))) q (.lst (ns.map V.int))) := s1.trans (same_new hq)
      refine ⟨_, rfl, (by show 5 ≤ sizeLine; decide), fun r hr' => ?_⟩
      have nq : q ≠ r := ne_of_none upd_same hr'
      refine k r q _ (s2.trans (same_new hr')) ((s2.trans (Same.refl _)).free hr') ?_
      exact Sto.put nq upd_same hl (by decide) (by decide) (by decide) (by decide)
end
end Vk
namespace Vk
open PySem PySem.Spec PyProof.Rows L2
section
variable {P : Program} {w : World} {K : PySem.W.Frag} {mg : Str → Option Value} {base : Heap}
def spPick : Sp := fun vs H Q _ => ∃ (a sc : Addr) (m n : Int), vs = [.ref a, .int m] ∧ 0 < m ∧ m < 1000000000 ∧ Sto sc a n H ∧ n ≤ 1000000 ∧
  ∀ (r : Int) (H' : Hp), 0 ≤ r → r < m → Sto sc a (n + 1) H' → Kept a H H' → Q (.int r) H'
theorem scPick : FnScope ["store", "count", "cell", "digit"] ["store", "count"] (defScope sPick) := ⟨rfl, rfl, rfl, by decide +kernel, rfl, by decide +kernel, by decide +kernel⟩
theorem ok_pick (D : Df K mg "_law_pick" sPick ["store", "count"]) (M : Cl P w K mg base CX0 1 "_law_mix" ["number", "turn"] spMix) (len : mg "len" = none) : Cl P w K mg base CX0 2 "_law_pick" ["store", "count"] spPick := by
  refine cl0 D scPick (fun vs H Q E h => ?_) (fun f cdv A outer s H vs Q E hr h => ?_)
  · obtain ⟨a, sc, m, n, rfl, _⟩ := h
    rfl
  · obtain ⟨a, sc, m, n, rfl, m0, m1, S, n1, k⟩ := h
    refine ⟨_, pss_cons (ps_asg (pe_op op_add (pe_ix ix_list (pv 0) pe_int (fun _ _ => rfl)) pe_int) (pg_sub (pv 0) pe_int set_list))
      (pss_cons (ps_if (PW.pt (pw_and (pt_cmpR op_eq (pe_ix ix_list (pv 0) pe_int (fun _ _ => rfl)) pe_int (nomark _)) (pw_and1 (pt_cmpR op_lt (pe_ix ix_list (pv 0) pe_int (fun _ _ => rfl)) (pe_callB call_len_seq (by rfl) len PySem.boot_len (pa_cons (pe_ix ix_list (pv 0) pe_int (fun _ _ => rfl)) pa_nil)) (nomark _)))))
        (pss_cons (ps_set (i := 2) scPick.nd rfl (Or.inl rfl) (pe_ix ix_list (pe_ix ix_list (pv 0) pe_int (fun _ _ => rfl)) (pe_ix ix_list (pv 0) pe_int (fun _ _ => rfl)) (fun _ _ => rfl)))
        (pss_cons (ps_asg (pe_op op_add (pe_ix ix_list (pv 0) pe_int (fun _ _ => rfl)) pe_int) (pg_sub (pv 0) pe_int set_list))
        (pss_cons (ps_if (pt_cmpR op_lt (pv 2) (pe_op op_pow pe_int pe_int) (nomark _))
          (pss_one (ps_ret (pe_op op_mod (pc M hr (by decide) (pa_cons (pv 2) (pa_cons (pe_ix ix_list (pv 0) pe_int (fun _ _ => rfl)) pa_nil))) (pv 1)))) pss_nil)
        (pss_one (ps_asg (pv 2) (pg_sub (pv 0) pe_int set_list)))))) pss_nil)
      (pss_cons (ps_if (pt_cmpR op_gt (pe_ix ix_list (pv 0) pe_int (fun _ _ => rfl)) pe_int (nomark _))
        (pss_cons (ps_set (i := 3) scPick.nd rfl (Or.inl rfl) (pe_op op_mod (pe_ix ix_list (pv 0) pe_int (fun _ _ => rfl)) (pv 1)))
        (pss_cons (ps_asg (pe_op op_fdiv (pe_ix ix_list (pv 0) pe_int (fun _ _ => rfl)) (pv 1)) (pg_sub (pv 0) pe_int set_list))
        (pss_one (ps_ret (pv 3))))) pss_nil)
      (pss_one (ps_ret (pe_op op_mod (pc M hr (by decide) (pa_cons (pe_ix ix_list (pv 0) pe_int (fun _ _ => rfl)) (pa_cons (pe_ix ix_list (pv 0) pe_int (fun _ _ => rfl)) pa_nil))) (pv 1)))))), ?_⟩
    obtain ⟨cs, i, dg, mx, c, hH, ns, hq, hl, i0, d0, c0, cn⟩ := S.ex
    have fill : ∀ (G : Hp) (i' dg' c' : Int), Off a G = Off a H → 0 ≤ i' → 0 ≤ dg' → 0 ≤ c' → c' ≤ n + 1 → G a = some (.lst [.ref sc, .int i', .int dg', .int mx, .int c']) → Sto sc a (n + 1) G ∧ Kept a H G := fun G i' dg' c' e h1 h2 h3 h4 h5 =>
      ⟨⟨cs, i', dg', mx, c', h5, ns, (off_sub a G).at (by rw [e, off_ne ns]; exact hq), hl, h1, h2, h3, h4⟩, by unfold Kept; rw [e]; exact Same.refl _⟩
    -- store[4] = store[4] + 1
    refine ⟨_, rfl, a, _, _, _, rfl, rfl, SqL.of hH, rfl, _, _, rfl, rfl, _, rfl, a, _, _, _, rfl, rfl, hH, rfl, ?_⟩
    -- the mix at the end
    have fin : ∀ (G : Hp) (i' dg' x r : Int), Off a G = Off a H → 0 ≤ i' → 0 ≤ dg' → G a = some (.lst [.ref sc, .int i', .int dg', .int mx, .int (c + 1)]) → Q (.int (r % m)) G := fun G i' dg' x r e h1 h2 h3 => by
      obtain ⟨s1, s2⟩ := fill G i' dg' (c + 1) e h1 h2 (by omega) (by omega) h3
      exact k _ G (Int.emod_nonneg _ (by omega)) (Int.emod_lt_of_pos _ m0) s1 s2
    have fin2 : ∀ (G : Hp) (i' dg' r : Int), Off a G = Off a H → 0 ≤ i' → 0 ≤ dg' → 0 ≤ r → r < m → G a = some (.lst [.ref sc, .int i', .int dg', .int mx, .int (c + 1)]) → Q (.int r) G := fun G i' dg' r e h1 h2 q1 q2 h3 => by
      obtain ⟨s1, s2⟩ := fill G i' dg' (c + 1) e h1 h2 (by omega) (by omega) h3
      exact k _ G q1 q2 s1 s2
    have hqG : ∀ G : Hp, Off a G = Off a H → SqL K G sc (cs.map V.int) := fun G e => SqL.of ((off_sub a G).at (by rw [e, off_ne ns]; exact hq))
    have oG : ∀ o, Off a (upd H a o) = Off a H := fun o => off_upd
    have oG2 : ∀ o u, Off a (upd (upd H a o) a u) = Off a H := fun o u => by rw [off_upd, off_upd]
    have oG3 : ∀ o u v, Off a (upd (upd (upd H a o) a u) a v) = Off a H := fun o u v => by rw [off_upd, off_upd, off_upd]
    refine ⟨_, rfl, a, _, _, _, rfl, rfl, SqL.of upd_same, rfl, rfl, _, rfl, ?_⟩
    refine ite2 (fun hd => ?_) (fun hd => ?_)
    · have hd0 : dg = 0 := by
        have z := of_decide_eq_true hd
        exact V.int.inj z
      subst hd0
      refine ⟨_, rfl, a, _, _, _, rfl, rfl, SqL.of upd_same, rfl, _, rfl, a, _, _, _, rfl, rfl, SqL.of upd_same, rfl, sc, _, rfl, .inl (hqG _ (oG _)), _, _, rfl, rfl, _, rfl, ?_⟩
      refine ite2 (fun hi => ?_) (fun hi => ?_)
      · have hi0 : i < (cs.map V.int).length := of_decide_eq_true hi
        have hj : i.toNat < cs.length := by rw [List.length_map] at hi0; omega
        have hc : (cs.map V.int)[i.toNat]? = some (V.int cs[i.toNat]) := by rw [List.getElem?_map, List.getElem?_eq_getElem hj]; rfl
        have ha : atI (cs.map V.int) i = some (V.int cs[i.toNat]) := by
          have z := atI_nat hc
          rw [Int.toNat_of_nonneg i0] at z
          exact z
        -- cell = store[0][store[1]]; store[1] = store[1] + 1
        refine ⟨_, rfl, a, _, _, _, rfl, rfl, SqL.of upd_same, rfl, _, rfl, a, _, _, _, rfl, rfl, SqL.of upd_same, rfl, sc, _, _, _, rfl, rfl, hqG _ (oG _), ha, ?_⟩
        refine ⟨_, rfl, a, _, _, _, rfl, rfl, SqL.of upd_same, rfl, _, _, rfl, rfl, _, rfl, a, _, _, _, rfl, rfl, upd_same, rfl, ?_⟩
        -- if cell < 10 ** 18
        refine ⟨_, rfl, _, _, rfl, rfl, ⟨by decide, by decide, by decide⟩, _, _, rfl, rfl, _, rfl, ?_⟩
        refine ite2 (fun hx => ?_) (fun hx => ?_)
        · refine ⟨_, rfl, _, rfl, a, _, _, _, rfl, rfl, SqL.of upd_same, rfl, _, _, rfl, by omega, by omega, fun r r0 r1 => ?_⟩
          exact ⟨_, rfl, _, _, rfl, rfl, m0, fin _ (i + 1) 0 0 r (oG2 _ _) (by omega) (by decide) upd_same⟩
        · have hx0 : ¬ cs[i.toNat] < 10 ^ 18 := fun z => hx (decide_eq_true z)
          -- store[2] = cell
          refine ⟨_, rfl, _, rfl, a, _, _, _, rfl, rfl, upd_same, rfl, ?_⟩
          refine ⟨_, rfl, a, _, _, _, rfl, rfl, SqL.of upd_same, rfl, _, _, rfl, rfl, _, rfl, ?_⟩
          refine ite2 (fun _ => ?_) (fun z => absurd (decide_eq_true (show (0 : Int) < cs[i.toNat] by omega)) z)
          refine ⟨_, rfl, a, _, _, _, rfl, rfl, SqL.of upd_same, rfl, _, rfl, _, _, rfl, rfl, m0, ?_⟩
          refine ⟨_, rfl, a, _, _, _, rfl, rfl, SqL.of upd_same, rfl, _, rfl, _, _, rfl, rfl, ⟨m0, by omega⟩, _, rfl, a, _, _, _, rfl, rfl, upd_same, rfl, ?_⟩
          refine ⟨_, rfl, ?_⟩
          exact fin2 _ (i + 1) (cs[i.toNat] / m) _ (by rw [off_upd, off_upd, off_upd, off_upd]) (by omega) (Int.ediv_nonneg (by omega) (by omega)) (Int.emod_nonneg _ (by omega)) (Int.emod_lt_of_pos _ m0) upd_same
      · refine ⟨_, rfl, a, _, _, _, rfl, rfl, SqL.of upd_same, rfl, _, _, rfl, rfl, _, rfl, ?_⟩
        refine ite2 (fun z => absurd (of_decide_eq_true z) (by decide)) (fun _ => ?_)
        refine ⟨_, rfl, a, _, _, _, rfl, rfl, SqL.of upd_same, rfl, _, rfl, a, _, _, _, rfl, rfl, SqL.of upd_same, rfl, _, _, rfl, by omega, by omega, fun r r0 r1 => ?_⟩
        exact ⟨_, rfl, _, _, rfl, rfl, m0, fin _ i 0 0 r (oG _) i0 (by decide) upd_same⟩
    · have hd0 : ¬ dg = 0 := fun z => hd (decide_eq_true (by rw [z]))
      refine iteF ?_
      refine ⟨_, rfl, a, _, _, _, rfl, rfl, SqL.of upd_same, rfl, _, _, rfl, rfl, _, rfl, ?_⟩
      refine ite2 (fun _ => ?_) (fun z => absurd (decide_eq_true (show (0 : Int) < dg by omega)) z)
      refine ⟨_, rfl, a, _, _, _, rfl, rfl, SqL.of upd_same, rfl, _, rfl, _, _, rfl, rfl, m0, ?_⟩
      refine ⟨_, rfl, a, _, _, _, rfl, rfl, SqL.of upd_same, rfl, _, rfl, _, _, rfl, rfl, ⟨m0, by omega⟩, _, rfl, a, _, _, _, rfl, rfl, upd_same, rfl, ?_⟩
      refine ⟨_, rfl, ?_⟩
      exact fin2 _ i (dg / m) _ (by rw [off_upd, off_upd]) i0 (Int.ediv_nonneg (by omega) (by omega)) (Int.emod_nonneg _ (by omega)) (Int.emod_lt_of_pos _ m0) upd_same
end
end Vk
/-! enumerate over a tuple: the pairs are new tuples -/
namespace PySem
set_option maxHeartbeats 4000000 in
theorem vx_enumNew {v : Value} {cell : Obj} {Hh : Heap → Prop} (B : Begins v cell Hh) :
    Meets (Builtin.«enumerate.__new__» ⟨[.type "enumerate", v], []⟩) (fun _ R s => Hh s.heap ∧
      R (.ok (.ret (.ref (s.heap.push cell).objs.size)))
        { s with heap := (s.heap.push cell).push { cls := .type "enumerate", data := .fields #[.none, .bool false, .ref s.heap.objs.size, rawInt 0, .none, .none] } }) :=
  .of_wp fun prog w A R s h => by
    obtain ⟨hp, gs, dr, tk, os⟩ := s
    obtain ⟨hbeg, h⟩ := h
    have subE := sub_enumerate
    have itOf : ∀ {A2 : Around} {E2 : Value → Shared → Prop} {Q2 : Value → Shared → Prop}, Q2 (.ref hp.objs.size) ⟨hp.push cell, gs, dr, tk, os⟩ → wpAny (model prog w) A2 (pyIter v) Q2 E2 ⟨hp, gs, dr, tk, os⟩ :=
      fun q => B.iter prog w _ _ ⟨hp, gs, dr, tk, os⟩ _ hbeg q
    wp_walk using itOf
    refine wpAny_stack_any fun st => wpAny_pure ?_
    split
    · rename_i cc _ _ _ _ _
      cases (cc == Value.type "enumerate") <;> (wp_walk using itOf; exact ⟨_, rfl, h⟩)
    · wp_walk using itOf
      exact ⟨_, rfl, h⟩
section
variable {prog : Program} {w : World} {A : Around} {E : Value → Shared → Prop} {s : Shared}
theorem vx_callEnum {v : Value} {cell : Obj} {Hh : Heap → Prop} {Q : Value → Shared → Prop} (B : Begins v cell Hh) (hbeg : Hh s.heap)
    (h : ∀ h', IsEnum h' (s.heap.objs.size + 1) s.heap.objs.size 0 .none → h'.get? s.heap.objs.size = some cell → (∀ b o, s.heap.get? b = some o → h'.get? b = some o) →
      Q (.ref (s.heap.objs.size + 1)) { s with heap := h' }) :
    wpAny (model prog w) A (call (.type "enumerate") [v]) Q E s := by
  refine callType_new F.called_enumerate (by decide) (F.typeCall_enumerate_1 _) (F.newCall_enumerate_1 _) (fun obj => F.args_object_init_2 obj _) F.entry_enumerate_new
    (vx_enumNew B) ⟨hbeg, ?_⟩
  have sz : (s.heap.push cell).objs.size = s.heap.objs.size + 1 := Heap.size_push ..
  show _ ∧ _
  rw [sz]
  have en : IsEnum ((s.heap.push cell).push { cls := .type "enumerate", data := .fields #[.none, .bool false, .ref s.heap.objs.size, rawInt 0, .none, .none] }) (s.heap.objs.size + 1) s.heap.objs.size 0 .none := by
    have got := Heap.get?_push_size (s.heap.push cell) (o := { cls := .type "enumerate", data := .fields #[.none, .bool false, .ref s.heap.objs.size, rawInt 0, .none, .none] }) rfl
    rw [sz] at got
    exact got
  exact ⟨⟨_, en, rfl⟩, h _ en (Heap.get?_push_of_some _ (Heap.get?_push_size _ B.free)) fun b o x => Heap.get?_push_of_some _ (Heap.get?_push_of_some _ x)⟩
end
end PySem
namespace L2
open PySem PySem.Spec PyProof.Rows
/-- what enumerate gives over the tuple at a: its items in new pairs -/
def IteT (K : PySem.W.Frag) (a : Addr) : It :=
  ⟨fun i H => ∃ (ys : List V) (y : V), SqT K H a ys ∧ ys[i]? = some y, fun i H v H' => ∃ T y, v = .ref T ∧ H T = none ∧ H' = upd H T (.tup [.int (i : Nat), y]) ∧ ∀ ys, SqT K H a ys → ys[i]? = some y,
    fun i H => ∃ ys : List V, SqT K H a ys ∧ ys.length = i⟩
theorem vx_turn {P : Program} {w : World} {K : PySem.W.Frag} {elts : List Expr} {kk : Nat} {tpos : Pos} (a e it : Addr) :
    Turn P w K (.Tuple elts kk tpos) (IteT K a) [e, it] e (fun i h => (∃ old, IsEnum h e it ((i : Nat) : Int) old) ∧ h.IsTupleIter it a i ∧ e ≠ it ∧ a ≠ it ∧ e ≠ a) where
  mem := List.mem_cons_self
  obj := fun i h st b hb => by
    obtain ⟨⟨old, en⟩, ⟨o, ho, hc, hd⟩, _⟩ := st
    have two : b = e ∨ b = it := by simpa using hb
    rcases two with z | z
    · subst z
      exact ⟨_, en, fun v q => nomatch q⟩
    · subst z
      exact ⟨o, ho, fun v q => by rw [hd] at q; cases q⟩
  keep := fun i h h' st k => by
    obtain ⟨⟨old, en⟩, hi, r⟩ := st
    exact ⟨⟨old, k e (by simp) _ en⟩, hi.at fun o q => k it (by simp) o q, r⟩
  item := by
    intro X hP hw hK hc i pins s σ H E I hf st hg
    subst hP hw hK
    obtain ⟨⟨old, en⟩, hit, nei, nai, nea⟩ := st
    obtain ⟨ys, y, hq, hy⟩ := hg
    obtain ⟨its, rv, p, _⟩ := I.tuple hq
    obtain ⟨u, hu, ru⟩ := rv.get hy
    have le : e < s.heap.objs.size := Heap.lt_size en
    have li : it < s.heap.objs.size := by obtain ⟨_, q, _⟩ := hit; exact Heap.lt_size q
    have hin : X.A.in1.handled = none := I.ok.hd hc
    have ilt : i < its.toArray.size := by
      have z := (List.getElem?_eq_some_iff.mp hu).1
      rw [List.size_toArray]
      exact z
    refine wpAny_pyNext_enum_itemD (Draws.tuple hin it a nai its.toArray) en ⟨hit, p⟩ ilt nei (by simp [nei, nea]) fun x h2 tk hx eo st2 hT hsz hk => ?_
    have ex : x = u := by
      have z : its.toArray[i]? = some x := hx
      rw [List.getElem?_toArray, hu] at z
      exact (Option.some.inj z).symm
    subst ex
    refine ⟨_, rfl, wpAny_letOwnedTupleGo_enum (s := { s with heap := h2, toks := tk + 1 }) eo fun h3 he3 sb => ?_⟩
    have hT3 : h3.get? s.heap.objs.size = some { cls := .type "tuple", data := .seq #[.int i tk, x] } := (sb.2 _ (Nat.ne_of_gt le)).trans hT
    have new : ObjOk X.prog X.w (upd H s.heap.objs.size (.tup [.int (i : Nat), y])) h3 s.heap.objs.size (.tup [.int (i : Nat), y]) :=
      ⟨(by show 2 ≤ sizeLine; decide), [.int i tk, x], .cons ⟨_, rfl⟩ (.cons ru .nil), ⟨_, hT3, rfl, _, rfl⟩⟩
    have J : Inv X pins σ (upd H s.heap.objs.size (.tup [.int (i : Nat), y])) { s with heap := h3, toks := tk + 1 } :=
      I.turnedNew (ch := [e, it]) (fun b ob hb q => by
        have n1 : b ≠ e := fun z => hb (by simp [z])
        have n2 : b ≠ it := fun z => hb (by simp [z])
        exact (sb.2 b n1).trans (hk b ob n1 n2 q)) hf (Nat.le_refl _) new
    refine ⟨.ref s.heap.objs.size, _, J, rfl, ⟨_, y, rfl, I.hok.fresh (Nat.le_refl _), rfl, fun zs hz => by rw [I.tuple_inj hz hq]; exact hy⟩, ⟨⟨x, ?_⟩, st2.1.at fun o q => (sb.2 it (Ne.symm nei)).trans q, nei, nai, nea⟩, fun b hb => ?_⟩
    · have en2 : ((i + 1 : Nat) : Int) = (i : Int) + 1 := by omega
      rw [en2]
      exact he3
    · have lb : b < s.heap.objs.size := by
        have two : b = e ∨ b = it := by simpa using hb
        rcases two with z | z
        · rw [z]; exact le
        · rw [z]; exact li
      rw [upd_ne (Nat.ne_of_lt lb)]
      exact (hf b hb).1
  done := by
    intro X hP hw hK hc i pins s σ H E I hf st hg
    subst hP hw hK
    obtain ⟨⟨old, en⟩, hit, nei, nai, nea⟩ := st
    obtain ⟨ys, hq, hy⟩ := hg
    obtain ⟨its, rv, p, _⟩ := I.tuple hq
    obtain ⟨f0, f1, f2, f3, f4, f5⟩ := hf it (by simp)
    have hl := rv.length
    have hi : i = its.toArray.size := by rw [List.size_toArray]; omega
    subst hi
    have hin : X.A.in1.handled = none := I.ok.hd hc
    exact wpAny_pyNext_enum_endD (Draws.tuple hin it a nai its.toArray) en ⟨hit, p⟩ fun h2 eb => ⟨rfl, I.turned (t' := s.toks) (fun b o hb q => eb b o hb q) f0 f1 f3 f4 f5⟩
  self := fun A i s Q E st h => by
    obtain ⟨⟨_, en⟩, _⟩ := st
    exact wpAny_pyIter_enum en h
def iEnumT (K : PySem.W.Frag) (ta : TA) : TI := fun σ H R => ta σ H fun vs H1 => ∃ a ys, vs = [.ref a] ∧ SqT K H1 a ys ∧ R (IteT K a) H1
theorem pi_enumT {X : Cx} {e : Expr} {ta : TA} {p pos tpos : Pos} {elts : List Expr} {kk : Nat} (hm : X.mg "enumerate" = none) (ha : PA X [e] ta) (hg : Gl X "enumerate" := by rfl) (hs : starEach [e] X.env = [(false, eval e X.env)] := by rfl) :
    PI X (.Tuple elts kk tpos) (.Call (.Name "enumerate" p) [e] [] pos) (iEnumT X.K ta) := by
  refine ⟨fun pins s σ H R I h => ?_⟩
  refine Call_ (ld_blt I hg hm boot_enumerate (PyProof.Rows.callWith_type1 (thn (ha.run pos pins s σ H _ I h) fun us s1 ⟨vs, H1, I1, r1, q1⟩ => ?_) hs rfl))
  obtain ⟨a, ys, ex, hq, q⟩ := q1
  subst ex
  cases r1 with
  | cons r rr =>
    cases rr
    cases r
    obtain ⟨its, rv, p2, _⟩ := I1.tuple hq
    have la : a < s1.heap.objs.size := by obtain ⟨_, z, _⟩ := p2; exact Heap.lt_size z
    refine vx_callEnum (begins_tuple a its.toArray) p2 fun h2 he hit hk => wpAny_pyIter_enum he ?_
    have I2 : Inv X pins σ H1 { s1 with heap := h2 } := I1.kept (t' := s1.toks) hk
    refine ⟨s1.heap.objs.size + 1, [s1.heap.objs.size + 1, s1.heap.objs.size], _, _, H1, rfl, I2, vx_turn a (s1.heap.objs.size + 1) s1.heap.objs.size,
      ⟨⟨.none, he⟩, ⟨_, hit, rfl, rfl⟩, Nat.succ_ne_self _, Nat.ne_of_lt la, Nat.ne_of_gt (Nat.lt_succ_of_lt la)⟩, fun b hb => ?_, q⟩
    have two : b = s1.heap.objs.size + 1 ∨ b = s1.heap.objs.size := by simpa using hb
    have hle : s1.heap.objs.size ≤ b := by
      rcases two with z | z
      · rw [z]; exact Nat.le_succ _
      · rw [z]; exact Nat.le_refl _
    exact I1.fpOk hle (I1.hok.fresh hle)
/-- turn by turn, the tuple standing still -/
theorem walk_enumT {K : PySem.W.Frag} {a : Addr} {xs : List V} : Walk (IteT K a) xs.length (fun H => SqT K H a xs) (YPair (fun i => some (.int (i : Nat))) (fun i => xs[i]?)) := by
  refine ⟨fun i _ hi q => ⟨xs, xs[i], q, by simp [hi]⟩, fun _ q => ⟨xs, q, rfl⟩, fun i H v H' _ q y => ?_⟩
  obtain ⟨T, x, h1, h2, h3, h4⟩ := y
  exact ⟨T, .int (i : Nat), x, h1, h2, h3, rfl, h4 xs q⟩
end L2
/-! an exception that its except suite gives to another name: it is tracked from there on -/
namespace Vk
open PySem PySem.Spec PyProof.Rows L2
/-- at a: an exception of the class cls, its dict d -/
def Xco (a : Addr) (cls : Value) (d : Option Addr) : HO := .ext fun h => ∃ (oe : Obj) (vs : Array Value), h.get? a = some oe ∧ Zc cls d oe ∧ oe.data = .fields vs
theorem xco_ok {P : Program} {w : World} {H : Hp} {h : Heap} {a : Addr} {cls : Value} {d : Option Addr} {oe : Obj} {vs : Array Value} (e : h.get? a = some oe) (z : Zc cls d oe) (f : oe.data = .fields vs) : ObjOk P w H h a (Xco a cls d) :=
  ⟨⟨oe, vs, e, z, f⟩, ⟨oe, e⟩, fun _ _ ⟨o, v, q, r⟩ k => ⟨o, v, k o q, r⟩⟩
theorem xco_at {P : Program} {w : World} {H : Hp} {h : Heap} {a : Addr} {cls : Value} {d : Option Addr} (hok : HOk P w H h) (e : H a = some (Xco a cls d)) : ∃ (oe : Obj) (vs : Array Value), h.get? a = some oe ∧ Zc cls d oe ∧ oe.data = .fields vs := by
  have x : ObjOk P w H h a (.ext fun h => ∃ (oe : Obj) (vs : Array Value), h.get? a = some oe ∧ Zc cls d oe ∧ oe.data = .fields vs) := hok a _ e
  exact x.1
section
variable {X : Cx} {pins : List (Addr × Obj)} {σ : L2.St} {H : Hp} {s : Shared}
theorem inv_track {a : Addr} {o : HO} (I : Inv X pins σ H s) (hn : H a = none) (n0 : ∀ ob, X.s_0.heap.get? a = some ob → False) (nL : a ≠ X.env.locals) (nC : ∀ x c, X.env.cells.lookup x = some c → c ≠ a) (nP : ∀ p ∈ X.pn ++ pins, p.1 ≠ a)
    (new : ObjOk X.prog X.w (upd H a o) s.heap a o) : Inv X pins σ (upd H a o) s := by
  have ne : ∀ {b : Addr} {u : HO}, H b = some u → b ≠ a := fun q => ne_of_none q hn
  have b1 : Un X.fs X.ex X.H_0 (upd H a o) X.s_0.heap s.heap := {
      keep := I.base.keep
      slot := I.base.slot
      free := fun b u q n x => by
        have nb : b ≠ a := fun z => by
          rw [z] at q
          exact n0 u q
        rw [upd_ne nb]
        exact I.base.free b u q n x
      there := I.base.there
      tups := fun b xs q => by
        have z := I.base.tups b xs q
        rw [upd_ne (ne z)]
        exact z
      frzs := fun b u xs q => by
        have z := I.base.frzs b u xs q
        rw [upd_ne (ne z)]
        exact z
      tbls := fun b ps q => by
        obtain ⟨m, z⟩ := I.base.tbls b ps q
        exact ⟨m, by rw [upd_ne (ne z)]; exact z⟩ }
  refine ⟨I.ok, I.os, I.bare, b1, I.loc, I.cell, ?_, ?_, ?_, ?_, I.len⟩
  · rw [upd_ne nL.symm]
    exact I.free
  · intro x c q
    rw [upd_ne (nC x c q)]
    exact I.freeC x c q
  · intro p hp
    obtain ⟨h1, h2, h3⟩ := I.pin p hp
    exact ⟨h1, by rw [upd_ne (nP p hp)]; exact h2, h3⟩
  · intro b u q
    by_cases hb : b = a
    · subst hb
      rw [upd_same] at q
      cases q
      exact new
    · rw [upd_ne hb] at q
      refine (I.hok b u q).stay (fun c v _ z => z) (fun c z => ?_) (fun c xs z => ?_)
      · rw [upd_ne (ne z)]
        exact z
      · rw [upd_ne (ne z)]
        exact z
end
/-- what «except C as n: suite» wishes where the suite keeps the exception -/
def wKeep (K : PySem.W.Frag) (c : Value) (i : Nat) (ts : Addr → Value → Option Addr → TS) (D : Ends) : WX := fun cls d σ H =>
  PySem.W.exmOne K cls c = some true ∧ ∀ a, H a = none → ts a cls d { nx := fun σ' H' => H' a = none → D.nx (σ'.set i none) (upd H' a (Xco a cls d)), rt := fun _ _ => False } (σ.set i (some (.ref a))) H
section
variable {X : Cx} {x n : Str} {c : Value} {i : Nat} {body more : List Stmt} {b₀ : Stmt} {np pos pos' : Pos} {tb : WX → TS} {ts : Addr → Value → Option Addr → TS}
theorem ps_try_keep (hs : X.stack = X.env :: X.outer) (hf : X.env.frame = some X.env.locals) (hex : X.ex = []) (hN : X.N.Nodup) (hi : X.N[i]? = some n) (hln : X.env.kindOf n = some .local) (hg : Gl X x) (hm : X.mg x = some c)
    (hdb : (x == ("__debug__" : Str)) = false)
    (hb : ∀ (W : WX) (pn : List (Addr × Obj)) (xe : Value → Shared → Prop), Takes (X.tr pn xe) W → PassesOwn (model X.prog X.w) X.A X.env xe → PSs (X.tr pn xe) body (tb W))
    (hsu : ∀ (a : Addr) (oe : Obj) (cls : Value) (d : Option Addr) (pn : List (Addr × Obj)), Zc cls d oe → (∃ vs, oe.data = .fields vs) → PSs (X.suite a ((a, oe) :: pn)) (b₀ :: more) (ts a cls d)) :
    PS X (.Try body [.ExceptHandler (some (.Name x np)) (some n) (b₀ :: more) pos'] [] [] pos) (fun D σ H => tb (wKeep X.K c i ts D) D σ H) := by
  refine ⟨fun pins s σ H D I h => ?_⟩
  have ok := I.ok
  have frames : X.A.frames = some (X.env :: X.outer) := by rw [ok.frames, hs]
  refine wpAny_Try_except (wpAny_mono ((hb (wKeep X.K c i ts D) (X.pn ++ pins) _ (fun u s2 air => ?_) PassesOwn.looking).run [] s σ H D (I.toTry _) h) (fun f s2 sp => ?_) (fun _ _ z => z))
  · obtain ⟨a, B, sI, pins2, σ2, H2, cls, d, rfl, J2, ground, up, sky, na, os, ag, match1, suite⟩ := air
    have J : Inv X pins σ2 H2 sI := J2.ofTry ok
    have air2 : Sky B (X.env :: X.outer) a (Zc cls d) X.env.locals s2.heap := by rw [← hs]; exact sky
    -- a stands in no frame, and is new
    refine Sky.land Zc.steady frames hf air2 fun h3 fly3 up3 => ?_
    have K3 : Inv X pins σ2 H2 { s2 with heap := h3 } := J.landed ground fly3.1 (up.trans up3) os ag
    obtain ⟨o3, v3, get3, z3, dat3⟩ := fly3.there
    have outFr : a ∉ frs (X.env :: X.outer) := fun hm2 => by
      obtain ⟨_, o4, get4, nf⟩ := fly3.2.2.1.mem hm2
      rw [get3] at get4
      cases get4
      exact nf _ dat3
    have noL : a ≠ X.env.locals := fun z => outFr (List.mem_filterMap.mpr ⟨X.env, List.mem_cons_self, by rw [hf, z]⟩)
    have noF : a ∉ X.fs := fun hm2 => by
      obtain ⟨e, he, q⟩ := List.mem_filterMap.mp hm2
      exact outFr (List.mem_filterMap.mpr ⟨e, List.mem_cons_of_mem _ he, q⟩)
    have outI : ∀ ob, sI.heap.get? a = some ob → False := fun ob q => by
      have z := ground a ob q (by rw [show (X.tr (X.pn ++ pins) _).stack = X.stack from rfl, hs]; exact outFr)
      rw [fly3.2.1] at z
      cases z
    have out0 : ∀ ob, X.s_0.heap.get? a = some ob → False := fun ob q => by
      obtain ⟨o5, z⟩ := J.base.there a ob q (by rw [hex]; exact fun y => nomatch y)
      exact outI _ z
    have noC : ∀ y cc, X.env.cells.lookup y = some cc → cc ≠ a := fun y cc q z => by
      obtain ⟨v, o6, get6, _⟩ := J.cell y cc q
      rw [z] at get6
      exact outI _ get6
    have noP : ∀ p ∈ X.pn ++ pins, p.1 ≠ a := fun p hp z => by
      have q := (J.pin p hp).1
      rw [z] at q
      exact outI _ q
    refine wpAny_handleBy_cons (codeAny_handlers_test ?_) (by intro q; cases q)
    have isC : PySem.W.Looks (model X.prog X.w) h3 (typeOf (.ref a)) cls := fun A2 Q2 E2 s4 kk q => wpAny_typeOf_ref (kk _ _ get3) (by rw [z3.1]; exact q)
    refine ld_glob (X := X.suite a ((a, o3) :: (X.pn ++ pins))) (K3.suite get3 dat3 na noL noF) hg hm ?_ hdb
    refine (PySem.W.exm_one (M := model X.prog X.w) K3.kIn isC match1).here (codeAny_handlers_suite_as ?_)
    refine HandSPX.lands_againZ fly3 fun h4 fly4 up4 => ?_
    have K4 : Inv X pins σ2 H2 { s2 with heap := h4 } := J.landed ground fly4.1 ((up.trans up3).trans up4) os ag
    obtain ⟨o4, v4, get4, z4, dat4⟩ := fly4.there
    refine store_ok (X := X.suite a ((a, o4) :: (X.pn ++ pins))) (v := .ref a) (K4.suite get4 dat4 na noL noF) hN hi (.inl hln) rfl (fun s5 S5 => ?_) (.inr hln)
    refine wpAny_mono ((hsu a o4 cls d (X.pn ++ pins) z4 ⟨_, dat4⟩).run [] s5 _ H2 _ S5 (suite a na)) (fun f s6 sp => ?_) (fun _ _ z => False.elim z)
    cases f with
    | next =>
      obtain ⟨σ6, H6, S6, q6⟩ := sp
      obtain ⟨get6, n6, _⟩ := S6.pin (a, o4) (List.mem_append_left _ List.mem_cons_self)
      have T6 : Inv X pins σ6 (upd H6 a (Xco a cls d)) s6 := inv_track (S6.unsuite ok) n6 out0 noL noC noP (xco_ok get6 z4 dat4)
      exact gone_ok T6 hN hi hln fun s7 T7 => ⟨_, _, T7, q6 n6⟩
    | brk =>
      obtain ⟨_, _, _, z⟩ := sp
      exact False.elim z
    | cont =>
      obtain ⟨_, _, _, z⟩ := sp
      exact False.elim z
    | ret u =>
      obtain ⟨_, _, _, _, _, z⟩ := sp
      exact False.elim z
  · cases f with
    | next =>
      obtain ⟨σ2, H2, J, q⟩ := sp
      exact wpAny_execs_nil ⟨σ2, H2, J.ofTry ok, q⟩
    | brk =>
      obtain ⟨σ2, H2, J, q⟩ := sp
      exact ⟨σ2, H2, J.ofTry ok, q⟩
    | cont =>
      obtain ⟨σ2, H2, J, q⟩ := sp
      exact ⟨σ2, H2, J.ofTry ok, q⟩
    | ret u =>
      obtain ⟨v, σ2, H2, J, r, q⟩ := sp
      exact ⟨v, σ2, H2, J.ofTry ok, r, q⟩
end
/-! ### what is asked of it later -/
theorem xco_inst {X : Cx} {pins : List (Addr × Obj)} {σ : L2.St} {H : Hp} {s : Shared} {a C : Addr} {d : Option Addr} (I : Inv X pins σ H s) (e : H a = some (Xco a (.ref C) d)) (hd : ∀ dd, d = some dd → ∃ fs, H dd = some (.xd fs)) :
    ∃ oe od, PySem.W.InstAt s.heap a oe C od := by
  obtain ⟨⟨oc, odd, dat, sl⟩, vs, get, ⟨z1, z2⟩, f⟩ := xco_at I.hok e
  dsimp only at z1 z2 f
  subst z1 z2 f
  cases odd with
  | none => exact ⟨_, none, get, rfl, rfl, trivial⟩
  | some dd =>
    obtain ⟨fs, hx⟩ := hd dd rfl
    have ok : ObjOk X.prog X.w H s.heap dd (.xd fs) := I.hok dd _ hx
    obtain ⟨mA, ⟨o2, _, _, get2, _⟩, _⟩ := ok
    exact ⟨_, some o2, get, rfl, rfl, get2⟩
/-- isinstance(e, c) of such an exception -/
def rIsX (K : PySem.W.Frag) : List V → Hp → VK → Prop := fun xs H Q => ∃ (a C : Addr) (d : Option Addr) (c : V) (u : Value) (b : Bool), xs = [.ref a, c] ∧ H a = some (Xco a (.ref C) d) ∧ (∀ dd, d = some dd → ∃ fs, H dd = some (.xd fs)) ∧
  ExcC K C ∧ ClsV c u ∧ PySem.W.kitOne K (.ref C) u = some b ∧ Q (.bl b) H
theorem call_isX {X : Cx} : CallR X (.builtin "isinstance") (rIsX X.K) := by
  intro pins s σ H xs us Q I r h
  obtain ⟨a, C, d, c, u, b, rfl, e, hd, T, k, hk, q⟩ := h
  obtain ⟨u1, u2, rfl, r1, r2⟩ := vals2 r
  cases r1
  have e2 := k.eq r2
  subst e2
  obtain ⟨oe, od, inst⟩ := xco_inst I e hd
  have cl : (PySem.W.clsIn X.K C).isSome = true := by
    obtain ⟨cd, hc, _⟩ := PySem.W.any_some T.hd
    rw [hc]
    rfl
  exact PySem.W.kia_one (PySem.W.kitx_exc (od := od) cl T.hg T.hk T.hs T.ha T.hn T.ht T.hm) I.kIn inst hk (fun z => nomatch z) fun tk => ⟨.bl b, H, I.tok tk, rfl, q⟩
/-- e.f of such an exception -/
def tXp (K : PySem.W.Frag) (f : Str) (te : TE) : TE := fun σ H Q => te σ H fun x H1 => ∃ (a C dd : Addr) (fs : List (Str × V)) (v : V), x = .ref a ∧ H1 a = some (Xco a (.ref C) (some dd)) ∧ H1 dd = some (.xd fs) ∧ fs.lookup f = some v ∧
  XfC K C ∧ PySem.W.findIn K (.ref C) f = some none ∧ Q v H1
theorem pe_xp {X : Cx} {e : Expr} {te : TE} {pos : Pos} {n : Str} (he : PE X e te) (hb : attributeBase e n X.env (eval e X.env) = eval e X.env := by rfl) : PE X (.Attribute e n pos) (tXp X.K n te) := by
  refine ⟨fun pins s σ H Q I h => attr_of hb (thn (he.run pins s σ H _ I h) fun u s1 got => ?_)⟩
  obtain ⟨x, H1, I1, rx, a, C, dd, fs, v, rfl, ea, ed, hl, T, hno, q⟩ := got
  cases rx
  obtain ⟨⟨oc, odd, dat, sl⟩, vs, get, ⟨z1, z2⟩, f⟩ := xco_at I1.hok ea
  dsimp only at z1 z2 f
  subst z1 z2 f
  have ok : ObjOk X.prog X.w H1 s1.heap dd (.xd fs) := I1.hok dd _ ed
  obtain ⟨mA, hns, hr⟩ := ok
  obtain ⟨od, ho, look⟩ := lookIn_ns hns
  obtain ⟨y, hy, ry⟩ := RelO.some_of (v := v) (o := mA n) (by rw [← hl]; exact hr n)
  have inst : PySem.W.InstAt s1.heap a ⟨.ref C, some dd, .fields vs, sl⟩ C (some od) := ⟨get, rfl, rfl, ho⟩
  exact HandSPX.exc_get I1.kIn inst T.ga T.gg T.exC (PySem.W.findObj_own T.hdC hno rfl (by rw [look, hy])) (handed_of ry) ⟨v, H1, I1.tok _, ry, q⟩
end Vk
/-! xs.count(y) of flat items -/
namespace Vk
open PySem PySem.Spec PyProof.Rows L2
theorem cnt_flat {y : V} : ∀ {ys : List V} {us : List Value}, Vals ys us → ys.all flatV = true → us.countP (eqU y) = ys.countP (fun z => eqV z y)
  | _, _, .nil, _ => rfl
  | _, _, .cons r t, f => by
    have f2 := Bool.and_eq_true_iff.mp f
    rw [List.countP_cons, List.countP_cons, cnt_flat t f2.2, eqU_of r f2.1]
def rCntV (K : PySem.W.Frag) : V → List V → Hp → VK → Prop := fun x xs H Q => ∃ (p : Addr) (ys : List V) (y : V), x = .ref p ∧ xs = [y] ∧ SqL K H p ys ∧ flatV y = true ∧ ys.all flatV = true ∧ Q (.int (ys.countP (fun z => eqV z y) : Nat)) H
theorem mt_countV {X : Cx} : MtR X "list.count" (rCntV X.K) := by
  intro pins s σ H x xs v us Q I rx rxs h
  obtain ⟨p, ys, y, rfl, rfl, hs, fy, fys, q⟩ := h
  cases rx
  obtain ⟨u, rfl, ru⟩ := rxs.one
  obtain ⟨its, rv, ⟨⟨cls, dd, data, sl⟩, n, ho, hc, hdn, hd⟩, hlen⟩ := I.list hs
  simp only at hc hd
  subst hc hd
  refine call_meets PySem.F.slot_list_count ⟨_, ho, rfl⟩ PySem.F.entry_list_count (PySem.F.args_list_count_2 _ _)
    (SeqAt.list_countAt p its.toArray n dd sl u (eqU y)) ⟨ho, fun z hz => mem_eqAt ru fy rv fys z (by simpa using hz), ?_⟩
  refine ⟨.int (ys.countP (fun z => eqV z y) : Nat), H, I.tok _, ⟨s.toks, ?_⟩, q⟩
  show Value.int ((its.toArray.toList.countP (eqU y) : Nat) : Int) s.toks = _
  rw [show its.toArray.toList = its from rfl, cnt_flat rv fys]
end Vk
/-! raise X(e), X an own error whose __init__ keeps one field -/
namespace Vk
open PySem PySem.Spec PyProof.Rows L2
def spIni (C : Addr) (fld : Str) : Sp := fun vs H Q _ => ∃ (a : Addr) (v : V), vs = [.ref a, v] ∧ H a = some (exo a C none) ∧ ∀ dx, H dx = none → dx ≠ a → Q .non (upd (upd H dx (exd dx [(fld, v)])) a (exo a C (some dx)))
structure ErC (P : Program) (w : World) (K : PySem.W.Frag) (mg : Str → Option Value) (base : Heap) (x fld : Str) (C : Addr) : Prop where
  gC : mg x = some (.ref C)
  oex : OexC K C
  ini : ∃ (fI : Addr) (fd : FuncData), PySem.W.findIn K (.ref C) "__init__" = some (some (.ref fI)) ∧ PySem.W.typeIn K (.ref fI) = some (.type "function") ∧ Binds K fd ["self", fld] [] ∧ FnOk P w K mg base CX0 1 fI fd ["self", fld] (spIni C fld)
def tRaiseE (C : Addr) (fld : Str) (W : WX) (te : TE) : TS := fun _ σ H => tMkO C (spIni C fld) [] (tCons te tNil) σ H fun cls d H' => W cls d σ H'
theorem put_del {H : Hp} {a d : Addr} {o u v x : HO} (ha : H a = none) (hd : H d = none) (ne : d ≠ a) : Same H (upd (del (upd (upd (upd H a o) d u) a v) a) d x) := .of fun b y e => by
  have nb : b ≠ a := ne_of_none e ha
  rw [upd_ne (ne_of_none e hd), del_ne nb, upd_ne nb, upd_ne (ne_of_none e hd), upd_ne nb]
  exact e
section
variable {X : Cx} {x fld : Str} {C : Addr} {W : WX} {e : Expr} {te : TE} {p pos pos2 : Pos} {k : Nat}
theorem ps_raiseE (T : ErC X.prog X.w X.K X.mg X.base x fld C) (hc : X.calm = true) (hr : Room k X.A) (hk : 2 ≤ k) (tk : Takes X W) (he : PE X e te) (hg : Gl X x := by rfl) (hdb : (x == ("__debug__" : Str)) = false := by decide)
    (hs : starEach (e :: []) X.env = (false, eval e X.env) :: starEach [] X.env := by rfl) (hpl : (backTo pos (starEach [] X.env)).any (·.1) = false := by rfl) :
    PS X (.Raise (some (.Call (.Name x p) [e] [] pos)) none pos2) (tRaiseE C fld W te) := by
  obtain ⟨fI, fd, h1, h2, h3, h4⟩ := T.ini
  have big := ps_raise (pos := pos2) hc tk (pmk_oex (p := p) (pos := pos) (CX := CX0) (k := 1) T.oex h1 h2 h4 (hr.mono hk) h3 .nil pass0 hg T.gC (pa_cons he pa_nil hs) hdb hs hpl)
  exact big
end
theorem raise_go {C : Addr} {fld : Str} {v : V} {H1 : Hp} {R : XK} {E : XK} (h : ∀ (d : Addr) (H2 : Hp), Same H1 H2 → H1 d = none → H2 d = some (.xd [(fld, v)]) → R (.ref C) (some d) H2) :
    [v].length ≤ 1000 ∧ ∀ a, H1 a = none → spIni C fld (.ref a :: ([v] ++ [])) (upd H1 a (exo a C none)) (fun u H2 => u = .non ∧ ∃ (d : Addr) (fs : List (Str × V)), H2 a = some (exo a C (some d)) ∧ H2 d = some (exd d fs) ∧ H1 d = none ∧ R (.ref C) (some d) (upd (del H2 a) d (.xd fs))) E := by
  refine ⟨by simp, fun a na => ⟨a, v, rfl, upd_same, fun dx nx ne => ?_⟩⟩
  have n1 : H1 dx = none := by
    rw [upd_ne ne] at nx
    exact nx
  refine ⟨rfl, dx, [(fld, v)], upd_same, by rw [upd_ne ne, upd_same], n1, h dx _ (put_del na n1 ne) n1 upd_same⟩
/-! ### the __init__ -/
structure Nit (K : PySem.W.Frag) (x qual fld : Str) (st : Stmt) (C : Addr) : Prop where
  ex : ∃ (fI : Addr) (fd : FuncData), PySem.W.findIn K (.ref C) "__init__" = some (some (.ref fI)) ∧ PySem.W.typeIn K (.ref fI) = some (.type "function") ∧ Fun K "__init__" qual st fI fd ∧ Binds K fd ["self", fld] []
end Vk
namespace Vk
open PySem PySem.Spec PyProof.Rows L2
section
variable {P : Program} {w : World} {K : PySem.W.Frag} {mg : Str → Option Value} {base : Heap}
theorem scInteger : FnScope ["value", "least"] ["value", "least"] (defScope sInteger) := ⟨rfl, rfl, rfl, by decide +kernel, rfl, by decide +kernel, by decide +kernel⟩
theorem ok_integer (D : Df K mg "is_integer" sInteger ["value", "least"]) (B : Blt mg) : Cl P w K mg base CX0 1 "is_integer" ["value", "least"] (spInteger K) := by
  refine cl0 D scInteger (fun vs H Q E h => ?_) (fun f cdv A outer s H vs Q E hr h => ?_)
  · obtain ⟨v, d, least, rfl, _⟩ := h
    rfl
  · obtain ⟨v, d, least, rfl, hd, k⟩ := h
    refine ⟨_, pss_one (ps_ret (pe_and (pe_callB call_isi (by rfl) B.isi (by decide +kernel) (pa_cons (pv 0) (pa_cons (pe_bltn (v := .ty "int") (u := .type "int") (by rfl) B.int (by decide +kernel) rfl) pa_nil))) (pe_and (pe_not (pe_callB call_isi (by rfl) B.isi (by decide +kernel) (pa_cons (pv 0) (pa_cons (pe_bltn (v := .ty "bool") (u := .type "bool") (by rfl) B.bool (by decide +kernel) rfl) pa_nil)))) (pe_one (pe_cmpR op_ge (pv 0) (pv 1) (nomark _)))))), ?_⟩
    refine ⟨_, rfl, v, _, _, _, _, rfl, .ty "int", dp_ty hd, kit_int hd, _, rfl, ?_⟩
    cases hd with
    | int i =>
      refine iteT ⟨_, rfl, _, _, _, _, _, rfl, .ty "bool", dp_ty (.int i), kit_bool (H := H) (.int i), _, rfl, _, rfl, iteT ?_⟩
      exact ⟨_, rfl, _, rfl, _, _, rfl, rfl, k⟩
    | bl b => exact iteT ⟨_, rfl, _, _, _, _, _, rfl, .ty "bool", dp_ty (.bl b), kit_bool (H := H) (.bl b), _, rfl, _, rfl, iteF k⟩
    | non => exact iteF k
    | str x => exact iteF k
    | lst q r => exact iteF k
    | tup q r => exact iteF k
theorem scInt : FnScope ["value", "least"] ["value", "least"] (defScope sInt) := ⟨rfl, rfl, rfl, by decide +kernel, rfl, by decide +kernel, by decide +kernel⟩
theorem ok_int (D : Df K mg "_law_is_int" sInt ["value", "least"]) (B : Blt mg) : Cl P w K mg base CX0 1 "_law_is_int" ["value", "least"] (spInteger K) := by
  refine cl0 D scInt (fun vs H Q E h => ?_) (fun f cdv A outer s H vs Q E hr h => ?_)
  · obtain ⟨v, d, least, rfl, _⟩ := h
    rfl
  · obtain ⟨v, d, least, rfl, hd, k⟩ := h
    refine ⟨_, pss_one (ps_ret (pe_and (pe_callB call_isi (by rfl) B.isi (by decide +kernel) (pa_cons (pv 0) (pa_cons (pe_bltn (v := .ty "int") (u := .type "int") (by rfl) B.int (by decide +kernel) rfl) pa_nil))) (pe_and (pe_not (pe_callB call_isi (by rfl) B.isi (by decide +kernel) (pa_cons (pv 0) (pa_cons (pe_bltn (v := .ty "bool") (u := .type "bool") (by rfl) B.bool (by decide +kernel) rfl) pa_nil)))) (pe_one (pe_cmpR op_ge (pv 0) (pv 1) (nomark _)))))), ?_⟩
    refine ⟨_, rfl, v, _, _, _, _, rfl, .ty "int", dp_ty hd, kit_int hd, _, rfl, ?_⟩
    cases hd with
    | int i =>
      refine iteT ⟨_, rfl, _, _, _, _, _, rfl, .ty "bool", dp_ty (.int i), kit_bool (H := H) (.int i), _, rfl, _, rfl, iteT ?_⟩
      exact ⟨_, rfl, _, rfl, _, _, rfl, rfl, k⟩
    | bl b => exact iteT ⟨_, rfl, _, _, _, _, _, rfl, .ty "bool", dp_ty (.bl b), kit_bool (H := H) (.bl b), _, rfl, _, rfl, iteF k⟩
    | non => exact iteF k
    | str x => exact iteF k
    | lst q r => exact iteF k
    | tup q r => exact iteF k
theorem scTupleOf : FnScope ["value", "many"] ["value", "many"] (defScope sTupleOf) := ⟨rfl, rfl, rfl, by decide +kernel, rfl, by decide +kernel, by decide +kernel⟩
theorem ok_tupleOf (D : Df K mg "is_tuple_of" sTupleOf ["value", "many"]) (B : Blt mg) : Cl P w K mg base CX0 1 "is_tuple_of" ["value", "many"] (spTupleOf K) := by
  refine cl0 D scTupleOf (fun vs H Q E h => ?_) (fun f cdv A outer s H vs Q E hr h => ?_)
  · obtain ⟨v, d, n, rfl, _⟩ := h
    rfl
  · obtain ⟨v, d, n, rfl, hd, k⟩ := h
    refine ⟨_, pss_one (ps_ret (pe_and (pe_callB call_isi (by rfl) B.isi (by decide +kernel) (pa_cons (pv 0) (pa_cons (pe_bltn (v := .ty "tuple") (u := .type "tuple") (by rfl) B.tuple (by decide +kernel) rfl) pa_nil))) (pe_one (pe_cmpR op_eq (pe_callB call_len_seq (by rfl) B.len PySem.boot_len (pa_cons (pv 0) pa_nil)) (pv 1) (nomark _))))), ?_⟩
    refine ⟨_, rfl, v, _, _, _, _, rfl, .ty "tuple", dp_ty hd, kit_tup hd, _, rfl, ?_⟩
    cases hd with
    | int i => exact iteF k
    | bl b => exact iteF k
    | non => exact iteF k
    | str x => exact iteF k
    | lst q r => exact iteF k
    | @tup a xs ds q r =>
      refine iteT ⟨_, rfl, _, xs, rfl, .inr q, _, rfl, rfl, ?_⟩
      have e : decide (V.int (xs.length : Nat) = V.int n) = tupleND n (.tuple ds) := by
        show _ = decide ((ds.length : Int) = n)
        rw [dps_len r]
        by_cases z : (ds.length : Int) = n
        · rw [z, decide_eq_true rfl, decide_eq_true rfl]
        · rw [decide_eq_false z, decide_eq_false (fun y => z (V.int.inj y))]
      show Q (.bl (decide (V.int (xs.length : Nat) = V.int n))) H
      rw [e]
      exact k
end
end Vk
/-! data beside the store: new tuples, lists, sums, slices -/
namespace Vk
open PySem PySem.Spec PyProof.Rows L2
theorem off_at {a p : Addr} {H : Hp} {o : HO} (h : H p = some o) (n : p ≠ a) : Off a H p = some o := by
  rw [off_ne n]
  exact h
theorem Kept.at {a p : Addr} {H H' : Hp} {o : HO} (k : Kept a H H') (h : H p = some o) (n : p ≠ a) (u : NoTbl o := by exact True.intro) : H' p = some o := (off_some (Same.at_ k _ _ (off_at h n) u)).2
theorem off_other {a p : Addr} {H : Hp} {o : HO} (h : p ≠ a) : Off a (upd H p o) = upd (Off a H) p o := by
  funext b
  by_cases h1 : b = a
  · subst h1
    rw [off_same, upd_ne h.symm, off_same]
  · rw [off_ne h1]
    by_cases h2 : b = p
    · subst h2
      rw [upd_same, upd_same]
    · rw [upd_ne h2, upd_ne h2, off_ne h1]
section
variable {K : PySem.W.Frag} {a p : Addr} {G : Hp} {vs : List V} {ds : List PyData} {o : HO}
theorem new_tup (hA : G a ≠ none) (np : G p = none) (h : DpAll K (Off a G) vs ds) : Dp K (Off a (upd G p (.tup vs))) (.ref p) (.tuple ds) := by
  have pa : p ≠ a := ne_has hA np
  exact .tup (SqT.of (by rw [off_ne pa, upd_same])) (dps_same (off_mono (same_new np)) h)
theorem new_lst (hA : G a ≠ none) (np : G p = none) (h : DpAll K (Off a G) vs ds) : Dp K (Off a (upd G p (.lst vs))) (.ref p) (.list ds) := by
  have pa : p ≠ a := ne_has hA np
  exact .lst (SqL.of (by rw [off_ne pa, upd_same])) (dps_same (off_mono (same_new np)) h)
theorem dp_up {H H' : Hp} {v : V} {d : PyData} (s : Same H H') (h : Dp K (Off a H) v d) : Dp K (Off a H') v d := dp_same (off_mono s) h
theorem dps_up {H H' : Hp} {v : List V} {d : List PyData} (s : Same H H') (h : DpAll K (Off a H) v d) : DpAll K (Off a H') v d := dps_same (off_mono s) h
theorem dp_on {H : Hp} {v : V} {d : PyData} (h : Dp K (Off a H) v d) : Dp K H v d := dp_same (off_sub a H) h
theorem atI_mem {xs : List V} {r : Int} (h0 : 0 ≤ r) (h1 : r < xs.length) : ∃ x, atI xs r = some x ∧ x ∈ xs := by
  have hj : r.toNat < xs.length := by omega
  have z := atI_nat (List.getElem?_eq_getElem hj)
  rw [Int.toNat_of_nonneg h0] at z
  exact ⟨_, z, List.getElem_mem hj⟩
theorem atI_dp {H : Hp} {xs : List V} {es : List PyData} {r : Int} (d : DpAll K H xs es) (h0 : 0 ≤ r) (h1 : r < es.length) : ∃ x e, atI xs r = some x ∧ es[r.toNat]? = some e ∧ Dp K H x e := by
  have hl := dps_len d
  have hj : r.toNat < es.length := by omega
  obtain ⟨x, hx, dx⟩ := dps_get d (List.getElem?_eq_getElem hj)
  have z := atI_nat hx
  rw [Int.toNat_of_nonneg h0] at z
  exact ⟨x, _, z, List.getElem?_eq_getElem hj, dx⟩
theorem cat_go {H : Hp} {x y : V} {ds es : List PyData} {Q : VK} (hA : H a ≠ none) (hx : Dp K (Off a H) x (.tuple ds)) (hy : Dp K (Off a H) y (.tuple es)) (hl : ds.length + es.length ≤ 1000)
    (k : ∀ z H', Same H H' → Dp K (Off a H') z (.tuple (ds ++ es)) → Q z H') : rCatA K x y H Q := by
  obtain ⟨p, xs, rfl, qx, rx⟩ := dp_tuple hx
  obtain ⟨q, ys, rfl, qy, ry⟩ := dp_tuple hy
  have l1 := dps_len rx
  have l2 := dps_len ry
  refine ⟨p, q, xs, ys, rfl, rfl, same_seqT (off_sub a H) qx, same_seqT (off_sub a H) qy, Nat.le_trans (show xs.length + ys.length ≤ 1000 by omega) (by decide), fun e => ?_, fun _ e => ?_, fun _ _ t nt => ?_⟩
  · subst e
    have e2 : ds = [] := List.eq_nil_of_length_eq_zero l1.symm
    subst e2
    exact k _ H (Same.refl H) hy
  · subst e
    have e2 : es = [] := List.eq_nil_of_length_eq_zero l2.symm
    subst e2
    rw [List.append_nil] at k
    exact k _ H (Same.refl H) hx
  · exact k _ _ (same_new nt) (new_tup hA nt (dps_app rx ry))
theorem slice_go {H : Hp} {x : V} {ds : List PyData} {lo hi : Option Int} {Q : VK} (hA : H a ≠ none) (hx : Dp K (Off a H) x (.tuple ds))
    (k : ∀ z H', Same H H' → Dp K (Off a H') z (.tuple ((ds.drop (HT.sIx ds.length 0 lo)).take (HT.sIx ds.length ds.length hi - HT.sIx ds.length 0 lo))) → Q z H') : rSlA K x lo hi H Q := by
  obtain ⟨p, xs, rfl, qx, rx⟩ := dp_tuple hx
  have l1 := dps_len rx
  refine ⟨p, xs, rfl, same_seqT (off_sub a H) qx, fun w => ?_, fun _ t nt => ?_⟩
  · rw [l1] at w
    have z := k (.ref p) H (Same.refl H)
    rw [w.1, w.2, List.drop_zero, Nat.sub_zero, List.take_length] at z
    exact z hx
  · refine k _ _ (same_new nt) (new_tup hA nt ?_)
    unfold cutV
    rw [l1]
    exact dps_take _ (dps_drop _ rx)
theorem dps_rep {H : Hp} {xs : List V} {es : List PyData} (d : DpAll K H xs es) : ∀ n : Nat, DpAll K H (List.replicate n xs).flatten (List.replicate n es).flatten
  | 0 => .nil
  | n + 1 => by
    rw [List.replicate_succ, List.replicate_succ, List.flatten_cons, List.flatten_cons]
    exact dps_app d (dps_rep d n)
end
end Vk
/-! xs == [], t != () -/
namespace Vk
open PySem PySem.Spec PyProof.Rows L2
def rEqNilL (K : PySem.W.Frag) : R2 := fun x y H Q => ∃ p q xs, x = .ref p ∧ y = .ref q ∧ SqL K H p xs ∧ SqL K H q [] ∧ Q (.bl xs.isEmpty) H
def rNeNilL (K : PySem.W.Frag) : R2 := fun x y H Q => ∃ p q xs, x = .ref p ∧ y = .ref q ∧ SqL K H p xs ∧ SqL K H q [] ∧ Q (.bl (!xs.isEmpty)) H
def rNeNilT (K : PySem.W.Frag) : R2 := fun x y H Q => ∃ p q xs, x = .ref p ∧ y = .ref q ∧ SqT K H p xs ∧ SqT K H q [] ∧ Q (.bl (!xs.isEmpty)) H
section
variable {X : Cx}
theorem op_eqNilL (hu : X.A.units < cLine) : OpR X (compareOp .Eq) (rEqNilL X.K) := by
  intro pins s σ H x y v u Q I rx ry h
  obtain ⟨p, q, xs, rfl, rfl, hp, hq, k⟩ := h
  cases rx
  cases ry
  obtain ⟨is1, r1, p1, _⟩ := I.list hp
  obtain ⟨is2, r2, p2, _⟩ := I.list hq
  cases r2
  have l1 := r1.length
  cases xs with
  | nil =>
    cases r1
    exact SeqAt.eq_listAt (e := fun _ => true) p1.isList p2.isList rfl hu (fun j h1 _ => absurd h1 (Nat.not_lt_zero _)) ⟨.bl true, H, I, rfl, k⟩
  | cons x r =>
    cases r1
    exact SeqAt.eq_list_lengthsAt p1.isList p2.isList (by simp) hu ⟨.bl false, H, I, rfl, k⟩
theorem op_neNilL (hu : X.A.units < cLine) : OpR X (compareOp .NotEq) (rNeNilL X.K) := by
  intro pins s σ H x y v u Q I rx ry h
  obtain ⟨p, q, xs, rfl, rfl, hp, hq, k⟩ := h
  cases rx
  cases ry
  obtain ⟨is1, r1, p1, _⟩ := I.list hp
  obtain ⟨is2, r2, p2, _⟩ := I.list hq
  cases r2
  have l1 := r1.length
  cases xs with
  | nil =>
    cases r1
    exact SeqAt.RcNeAt.lists (e := fun _ => true) p1.isList p2.isList rfl hu (fun j h1 _ => absurd h1 (Nat.not_lt_zero _)) _ _ _ _ ⟨.bl false, H, I, rfl, k⟩
  | cons x r =>
    cases r1
    exact SeqAt.RcNeAt.lists_lengths p1.isList p2.isList (by simp) hu _ _ _ _ ⟨.bl true, H, I, rfl, k⟩
theorem op_neNilT (hu : X.A.units < cLine) : OpR X (compareOp .NotEq) (rNeNilT X.K) := by
  intro pins s σ H x y v u Q I rx ry h
  obtain ⟨p, q, xs, rfl, rfl, hp, hq, k⟩ := h
  cases rx
  cases ry
  obtain ⟨is1, r1, p1, _⟩ := I.tuple hp
  obtain ⟨is2, r2, p2, _⟩ := I.tuple hq
  cases r2
  have l1 := r1.length
  have z : (!((List.range (min is1.toArray.size ([] : List Value).toArray.size)).all (fun _ => true) && is1.toArray.size == ([] : List Value).toArray.size)) = !xs.isEmpty := by
    cases xs with
    | nil =>
      cases r1
      rfl
    | cons x r =>
      cases r1
      simp
  refine SeqAt.RcNeAt.tuples (e := fun _ => true) p1 p2 hu (fun j _ h2 => absurd h2 (Nat.not_lt_zero _)) _ _ _ _ ?_
  rw [z]
  exact ⟨.bl (!xs.isEmpty), H, I, rfl, k⟩
end
end Vk
/-! all(lo <= c <= hi for c in text) -/
namespace Vk
open PySem PySem.Spec PyProof.Rows L2 GxR
def between (lo hi : Str) (c : Nat) : Bool := !decide ([c] < lo.cps.toList) && !decide (hi.cps.toList < [c])
theorem elt_between {prog : Program} {w : World} {scope : Scope} {x lo hi : Str} {j1 j2 : Nat} {p1 p2 p3 p4 : Pos} (hk : scope.kind = .function) (hl : scope.names.lookup x = some .local) (hd : (x == ("__debug__" : Str)) = false := by decide) :
    EltP prog w scope x (.Compare (.Constant (.str lo) j1 p1) [.LtE, .LtE] [.Name x p2, .Constant (.str hi) j2 p3] p4) (between lo hi) := by
  intro cenv A' E' c t s₂ m₂ hs hn hm
  refine Compare_chain ?_
  refine Calls.Constant_str (chain_link ?_)
  refine wpAny_Name (wpAny_loadName_local (by rw [hs]; exact hk) (show cenv.scope.names.lookup x = some .local by rw [hs]; exact hl) hn hm ?_) hd
  refine PySem.P.le_str (wpAny_truthy_bool ?_)
  have e1 : (⟨#[c]⟩ : Str).cps.toList = [c] := rfl
  cases h1 : decide ([c] < lo.cps.toList) with
  | true =>
    refine ite_ff ⟨?_, keeps_tok _ _⟩
    unfold between
    rw [h1]
    rfl
  | false =>
    refine ite_tt (chain_last (Calls.Constant_str (PySem.P.le_str ⟨?_, keeps_tok _ _⟩)))
    unfold between
    rw [h1]
    rfl
end Vk
namespace Vk
open PySem PySem.Spec PyProof.Rows L2 GxR
/-- a def whose code object stands at c -/
structure DfC (K : PySem.W.Frag) (mg : Str → Option Value) (x : Str) (st : Stmt) (ps : List Str) (c : Addr) : Prop where
  ex : ∃ (f : Addr) (oc : Value) (od : Option Addr) (kV doc pm : Value) (an : Option Addr) (ct : Value) (osl : Array (Option Value)), mg x = some (.ref f) ∧
    K.lookup f = some ⟨oc, od, .func (PySem.W.fnOf x x (defArgs st) (defBody st) (defScope st) .none kV doc pm an (.ref c) ct), osl⟩ ∧ PySem.W.codeIn K (.ref c) x = true ∧ PySem.W.keepIn K (.ref f) = true ∧
    Binds K (PySem.W.fnOf x x (defArgs st) (defBody st) (defScope st) .none kV doc pm an (.ref c) ct) ps []
theorem clC {P : Program} {w : World} {K : PySem.W.Frag} {mg : Str → Option Value} {base : Heap} {x : Str} {st : Stmt} {N ps : List Str} {k : Nat} {sp : Sp} {c : Addr} (D : DfC K mg x st ps c) (S : FnScope N ps (defScope st)) (len : ∀ vs H Q E, sp vs H Q E → vs.length = ps.length)
    (body : ∀ (f : Addr) (A : Around) (outer : List Env) (s : Shared) (H : Hp) (vs : List V) (Q : VK) (E : XK), Room k (A.deeper (envOfC x (defScope st) s.heap.objs.size f (.ref c))) → sp vs H Q E →
      ∃ t, PSs (cxOf CX0 P w K mg base N x (defScope st) f (.ref c) A outer s H E).nox (defBody st) t ∧ t { nx := fun _ H' => Q .non H', rt := Q } (start N vs) H) : Cl P w K mg base CX0 (k + 1) x ps sp := by
  obtain ⟨f, oc, od, kV, doc, pm, an, ct, osl, hm, lk, hcd, kp, b⟩ := D.ex
  refine ⟨f, _, hm, kp, b, fn_of lk hcd S len fun A outer s H vs Q E hr hsp => ?_⟩
  obtain ⟨t, h, q⟩ := body f A outer s H vs Q E hr hsp
  exact ⟨t, h.nox, q⟩
theorem twoLoc {R : Str × NameKind → Prop} {a b : Str} : ∀ y ∈ [(a, NameKind.local), (b, NameKind.local)], y.2 = .free → R y := by
  intro y hy e
  rcases List.mem_cons.mp hy with rfl | hy
  · cases e
  · rcases List.mem_cons.mp hy with rfl | hy
    · cases e
    · cases hy
def smallS : PyData → Prop
  | .str s => s.length ≤ 1000
  | _ => True
def nameD : PyData → Bool
  | .str s => decide (1 ≤ s.length) && (decide (s.length ≤ 8) && s.cps.toList.all (between "a" "z"))
  | _ => false
section
variable {P : Program} {w : World} {K : PySem.W.Frag} {mg : Str → Option Value} {base : Heap}
def spName (K : PySem.W.Frag) (T : Addr) : Sp := fun vs H Q _ => ∃ (v : V) (d : PyData), vs = [v] ∧ Dp K H v d ∧ smallS d ∧ TabG H T ∧ ∀ H', Same H H' → Q (.bl (nameD d)) H'
theorem scName : FnScope ["value"] ["value"] (defScope sName) := ⟨rfl, rfl, rfl, by decide +kernel, rfl, by decide +kernel, by decide +kernel⟩
theorem ok_name {c T : Addr} (D : DfC K mg "is_name" sName ["value"] c) (TB : TabB base mg c T) (B : Blt mg) (al : mg "all" = none) : Cl P w K mg base CX0 1 "is_name" ["value"] (spName K T) := by
  refine clC D scName (fun vs H Q E h => ?_) (fun f A outer s H vs Q E hr h => ?_)
  · obtain ⟨v, d, rfl, _⟩ := h
    rfl
  · obtain ⟨v, d, rfl, hd, sm, tg, k⟩ := h
    refine ⟨_, pss_cons (ps_if (PW.pt (pw_or (pt_not (pt_val (pe_callB call_isi (by rfl) B.isi (by decide +kernel) (pa_cons (pv 0) (pa_cons (pe_bltn (v := .ty "str") (u := .type "str") (by rfl) B.str (by decide +kernel) rfl) pa_nil))))) (pw_or1 (pt_not (pt_chain op_le op_le pe_int (pe_callB call_len (by rfl) B.len PySem.boot_len (pa_cons (pv 0) pa_nil)) pe_int))))) (pss_one (ps_ret pe_bl)) pss_nil)
      (pss_one (ps_ret (pe_allS (c := c) (P := T) (pb := between "a" "z") hr (by rfl) al (by decide +kernel) TB rfl ⟨rfl, rfl, by decide +kernel, by decide +kernel, by decide +kernel, twoLoc⟩ (pv 0) (elt_between rfl (by decide +kernel)) (fun _ => rfl)))), ?_⟩
    refine ⟨_, rfl, v, _, _, _, _, rfl, .ty "str", dp_ty hd, kit_strT hd, _, rfl, ?_⟩
    have fin : ∀ b, nameD d = b → ∀ H', Same H H' → Q (.bl b) H' := fun b e H' s1 => by
      have z := k H' s1
      rw [e] at z
      exact z
    cases hd with
    | non => exact iteT (iteT (fin _ rfl H (Same.refl H)))
    | int i => exact iteT (iteT (fin _ rfl H (Same.refl H)))
    | bl b => exact iteT (iteT (fin _ rfl H (Same.refl H)))
    | lst q r => exact iteT (iteT (fin _ rfl H (Same.refl H)))
    | tup q r => exact iteT (iteT (fin _ rfl H (Same.refl H)))
    | str x =>
      refine iteF ⟨_, rfl, .str x, x.length, rfl, ⟨Nat.le_trans (show x.length ≤ 1000 from sm) (by decide), rfl⟩, _, _, rfl, rfl, _, rfl, ?_⟩
      have e : nameD (.str x) = (decide (1 ≤ x.length) && (decide (x.length ≤ 8) && x.cps.toList.all (between "a" "z"))) := rfl
      refine ite2 (fun z1 => ?_) (fun z1 => ?_)
      · have z2 : (1 : Int) ≤ (x.length : Nat) := of_decide_eq_true z1
        have e1 : decide (1 ≤ x.length) = true := decide_eq_true (by omega)
        refine ⟨_, _, rfl, rfl, _, rfl, ?_⟩
        by_cases z3 : x.length ≤ 8
        · rw [decide_eq_true (show ((x.length : Nat) : Int) ≤ 8 by omega)]
          refine iteF ⟨_, rfl, x, rfl, tg, fun H2 tb => fin _ ?_ H2 (same_tabbed tb tg)⟩
          rw [e, e1, decide_eq_true z3]
          rfl
        · rw [decide_eq_false (show ¬ ((x.length : Nat) : Int) ≤ 8 by omega)]
          refine iteT (fin _ ?_ H (Same.refl H))
          rw [e, e1, decide_eq_false z3]
          rfl
      · have z2 : ¬ 1 ≤ x.length := fun y => z1 (decide_eq_true (by omega))
        refine ⟨_, rfl, iteT (fin _ ?_ H (Same.refl H))⟩
        rw [e, decide_eq_false z2]
        rfl
end
end Vk
namespace Vk
open PySem PySem.Spec PyProof.Rows L2 GxR
/-! ### data of a job -/
def headD : PyData → Bool
  | .tuple [a, _] => flatD a
  | _ => true
theorem tup_two {d : PyData} (h : tupleND 2 d = true) : ∃ a b, d = .tuple [a, b] := by
  cases d with
  | tuple ds =>
    have z : (ds.length : Int) = 2 := of_decide_eq_true h
    match ds, z with
    | [a, b], _ => exact ⟨a, b, rfl⟩
    | [], z => cases z
    | [_], z => cases z
    | _ :: _ :: _ :: l, z => simp only [List.length_cons] at z; omega
  | _ => cases h
theorem tup_three {d : PyData} (h : tupleND 3 d = true) : ∃ a b c, d = .tuple [a, b, c] := by
  cases d with
  | tuple ds =>
    have z : (ds.length : Int) = 3 := of_decide_eq_true h
    match ds, z with
    | [a, b, c], _ => exact ⟨a, b, c, rfl⟩
    | [], z => cases z
    | [_], z => cases z
    | [_, _], z => cases z
    | _ :: _ :: _ :: _ :: l, z => simp only [List.length_cons] at z; omega
  | _ => cases h
theorem dp_two {K : PySem.W.Frag} {H : Hp} {v : V} {a b : PyData} (h : Dp K H v (.tuple [a, b])) : ∃ p x y, v = .ref p ∧ SqT K H p [x, y] ∧ Dp K H x a ∧ Dp K H y b := by
  obtain ⟨p, xs, rfl, q, r⟩ := dp_tuple h
  cases r with
  | cons h1 r =>
    cases r with
    | cons h2 r =>
      cases r
      exact ⟨p, _, _, rfl, q, h1, h2⟩
theorem dp_three {K : PySem.W.Frag} {H : Hp} {v : V} {a b c : PyData} (h : Dp K H v (.tuple [a, b, c])) : ∃ p x y z, v = .ref p ∧ SqT K H p [x, y, z] ∧ Dp K H x a ∧ Dp K H y b ∧ Dp K H z c := by
  obtain ⟨p, xs, rfl, q, r⟩ := dp_tuple h
  cases r with
  | cons h1 r =>
    cases r with
    | cons h2 r =>
      cases r with
      | cons h3 r =>
        cases r
        exact ⟨p, _, _, _, rfl, q, h1, h2, h3⟩
def atS (s : Str) : PyData → Bool
  | .str x => decide (x = s)
  | _ => false
theorem scal_S {K : PySem.W.Frag} {H : Hp} {v : V} {d : PyData} {s : Str} (h : Dp K H v d) (f : flatD d = true) : scal v (.str s) = true := by
  cases h with
  | lst q r => cases f
  | tup q r => cases f
  | _ => rfl
theorem eq_S {K : PySem.W.Frag} {H : Hp} {v : V} {d : PyData} {s : Str} (h : Dp K H v d) : decide (v = .str s) = atS s d := by
  cases h with
  | str x =>
    show decide (V.str x = V.str s) = decide (x = s)
    by_cases z : x = s
    · rw [z, decide_eq_true rfl, decide_eq_true rfl]
    · rw [decide_eq_false z, decide_eq_false (fun y => z (V.str.inj y))]
  | non => exact decide_eq_false (fun z => nomatch z)
  | bl b => exact decide_eq_false (fun z => nomatch z)
  | int i => exact decide_eq_false (fun z => nomatch z)
  | lst q r => exact decide_eq_false (fun z => nomatch z)
  | tup q r => exact decide_eq_false (fun z => nomatch z)
def arrivalD : PyData → Bool
  | .tuple [k, x] => if atS "at" k = true then integerD 0 x else (atS "after" k && integerD 1 x)
  | _ => false
def le9 : PyData → Bool
  | .int i => decide (i ≤ 9)
  | _ => false
def jobD : PyData → Bool
  | .tuple [n, a, e] => nameD n && (arrivalD a && (integerD 0 e && le9 e))
  | _ => false
def niceJob : PyData → Prop
  | .tuple [n, a, _] => smallS n ∧ headD a = true
  | _ => True
theorem arr_not {d : PyData} (h : tupleND 2 d = false) : arrivalD d = false := by
  cases d with
  | tuple ds =>
    have z : ¬ (ds.length : Int) = 2 := of_decide_eq_false h
    match ds, z with
    | [a, b], z => exact absurd rfl z
    | [], _ => rfl
    | [_], _ => rfl
    | _ :: _ :: _ :: l, _ => rfl
  | _ => rfl
theorem job_not {d : PyData} (h : tupleND 3 d = false) : jobD d = false := by
  cases d with
  | tuple ds =>
    have z : ¬ (ds.length : Int) = 3 := of_decide_eq_false h
    match ds, z with
    | [a, b, c], z => exact absurd rfl z
    | [], _ => rfl
    | [_], _ => rfl
    | [_, _], _ => rfl
    | _ :: _ :: _ :: _ :: l, _ => rfl
  | _ => rfl
section
variable {P : Program} {w : World} {K : PySem.W.Frag} {mg : Str → Option Value} {base : Heap}
def spArrival (K : PySem.W.Frag) : Sp := fun vs H Q _ => ∃ (v : V) (d : PyData), vs = [v] ∧ Dp K H v d ∧ headD d = true ∧ ∀ H', Same H H' → Q (.bl (arrivalD d)) H'
theorem scArrival : FnScope ["arrival", "kind", "number"] ["arrival"] (defScope sArrival) := ⟨rfl, rfl, rfl, by decide +kernel, rfl, by decide +kernel, by decide +kernel⟩
theorem ok_arrival (D : Df K mg "is_arrival" sArrival ["arrival"]) (T : Cl P w K mg base CX0 1 "is_tuple_of" ["value", "many"] (spTupleOf K)) (I : Cl P w K mg base CX0 1 "is_integer" ["value", "least"] (spInteger K)) : Cl P w K mg base CX0 2 "is_arrival" ["arrival"] (spArrival K) := by
  refine cl0 D scArrival (fun vs H Q E h => ?_) (fun f cdv A outer s H vs Q E hr h => ?_)
  · obtain ⟨v, d, rfl, _⟩ := h
    rfl
  · obtain ⟨v, d, rfl, hd, fl, k⟩ := h
    refine ⟨_, pss_cons (ps_if (pt_not (pt_val (pc T hr (by decide) (pa_cons (pv 0) (pa_cons pe_int pa_nil))))) (pss_one (ps_ret pe_bl)) pss_nil)
      (pss_cons (ps_asg (pv 0) (pg_tup rfl (pgs_cons (pg_name (i := 1) scArrival.nd rfl (.inl rfl)) (pgs_cons (pg_name (i := 2) scArrival.nd rfl (.inl rfl)) pgs_nil))))
      (pss_cons (ps_if (pt_cmpR op_eq (pv 1) pe_str (nomark _)) (pss_one (ps_ret (pc I hr (by decide) (pa_cons (pv 2) (pa_cons pe_int pa_nil))))) pss_nil)
      (pss_one (ps_ret (pe_and (pe_cmpR op_eq (pv 1) pe_str (nomark _)) (pe_one (pc I hr (by decide) (pa_cons (pv 2) (pa_cons pe_int pa_nil))))))))), ?_⟩
    refine ⟨_, rfl, v, d, 2, rfl, hd, _, rfl, ?_⟩
    cases ht : tupleND 2 d with
    | false =>
      refine iteT ?_
      have z := k H (Same.refl H)
      rw [arr_not ht] at z
      exact z
    | true =>
      obtain ⟨a, b, rfl⟩ := tup_two ht
      obtain ⟨p, x, y, rfl, q, ha, hb⟩ := dp_two hd
      have fl2 : flatD a = true := fl
      have kk := k H (Same.refl H)
      have e : arrivalD (.tuple [a, b]) = if atS "at" a = true then integerD 0 b else (atS "after" a && integerD 1 b) := rfl
      rw [e] at kk
      refine iteF ⟨_, rfl, p, _, rfl, q, rfl, _, _, rfl, _, _, rfl, rfl, ?_⟩
      refine ⟨_, rfl, scal_S ha fl2, _, rfl, ?_⟩
      rw [eq_S ha]
      cases h1 : atS "at" a with
      | true =>
        rw [h1] at kk
        exact iteT ⟨_, rfl, y, b, 0, rfl, hb, kk⟩
      | false =>
        rw [h1] at kk
        refine iteF ⟨_, rfl, scal_S ha fl2, _, rfl, ?_⟩
        rw [eq_S ha]
        cases h2 : atS "after" a with
        | true =>
          rw [h2] at kk
          exact iteT ⟨_, rfl, y, b, 1, rfl, hb, kk⟩
        | false =>
          rw [h2] at kk
          exact iteF kk
def spIsJob (K : PySem.W.Frag) (T : Addr) : Sp := fun vs H Q _ => ∃ (v : V) (d : PyData), vs = [v] ∧ Dp K H v d ∧ niceJob d ∧ TabG H T ∧ ∀ H', Same H H' → Q (.bl (jobD d)) H'
theorem scIsJob : FnScope ["job", "name", "arrival", "entry"] ["job"] (defScope sIsJob) := ⟨rfl, rfl, rfl, by decide +kernel, rfl, by decide +kernel, by decide +kernel⟩
theorem ok_isJob {T : Addr} (D : Df K mg "is_job" sIsJob ["job"]) (TU : Cl P w K mg base CX0 1 "is_tuple_of" ["value", "many"] (spTupleOf K)) (I : Cl P w K mg base CX0 1 "is_integer" ["value", "least"] (spInteger K)) (NA : Cl P w K mg base CX0 1 "is_name" ["value"] (spName K T))
    (AR : Cl P w K mg base CX0 2 "is_arrival" ["arrival"] (spArrival K)) : Cl P w K mg base CX0 3 "is_job" ["job"] (spIsJob K T) := by
  refine cl0 D scIsJob (fun vs H Q E h => ?_) (fun f cdv A outer s H vs Q E hr h => ?_)
  · obtain ⟨v, d, rfl, _⟩ := h
    rfl
  · obtain ⟨v, d, rfl, hd, nj, tg, k⟩ := h
    refine ⟨_, pss_cons (ps_if (pt_not (pt_val (pc TU hr (by decide) (pa_cons (pv 0) (pa_cons pe_int pa_nil))))) (pss_one (ps_ret pe_bl)) pss_nil)
      (pss_cons (ps_asg (pv 0) (pg_tup rfl (pgs_cons (pg_name (i := 1) scIsJob.nd rfl (.inl rfl)) (pgs_cons (pg_name (i := 2) scIsJob.nd rfl (.inl rfl)) (pgs_cons (pg_name (i := 3) scIsJob.nd rfl (.inl rfl)) pgs_nil)))))
      (pss_one (ps_ret (pe_and (pc NA hr (by decide) (pa_cons (pv 1) pa_nil)) (pe_and (pc AR hr (by decide) (pa_cons (pv 2) pa_nil)) (pe_and (pc I hr (by decide) (pa_cons (pv 3) (pa_cons pe_int pa_nil)))
        (pe_one (pe_cmpR op_le (pv 3) pe_int (nomark _))))))))), ?_⟩
    refine ⟨_, rfl, v, d, 3, rfl, hd, _, rfl, ?_⟩
    cases ht : tupleND 3 d with
    | false =>
      refine iteT ?_
      have z := k H (Same.refl H)
      rw [job_not ht] at z
      exact z
    | true =>
      obtain ⟨n, a, e, rfl⟩ := tup_three ht
      obtain ⟨p, x, y, z, rfl, q, hn, ha, he⟩ := dp_three hd
      have je : jobD (.tuple [n, a, e]) = (nameD n && (arrivalD a && (integerD 0 e && le9 e))) := rfl
      refine iteF ⟨_, rfl, p, _, rfl, q, rfl, _, _, rfl, _, _, rfl, _, _, rfl, rfl, ?_⟩
      refine ⟨_, rfl, x, n, rfl, hn, nj.1, tg, fun H1 s1 => ⟨_, rfl, ?_⟩⟩
      cases hN : nameD n with
      | false =>
        have z := k H1 s1
        rw [je, hN] at z
        exact iteF z
      | true =>
        refine iteT ⟨_, rfl, y, a, rfl, dp_same s1 ha, nj.2, fun H2 s2 => ⟨_, rfl, ?_⟩⟩
        have s12 := s1.trans s2
        have kk := k H2 s12
        rw [je, hN] at kk
        cases hA : arrivalD a with
        | false =>
          rw [hA] at kk
          exact iteF kk
        | true =>
          rw [hA] at kk
          refine iteT ⟨_, rfl, z, e, 0, rfl, dp_same s12 he, _, rfl, ?_⟩
          cases he with
          | int i =>
            cases hI : integerD 0 (.int i) with
            | false =>
              rw [hI] at kk
              exact iteF kk
            | true =>
              rw [hI] at kk
              exact iteT ⟨_, rfl, _, _, rfl, rfl, kk⟩
          | bl b => exact iteF kk
          | non => exact iteF kk
          | str b => exact iteF kk
          | lst q r => exact iteF kk
          | tup q r => exact iteF kk
end
end Vk
namespace Vk
open PySem PySem.Spec PyProof.Rows L2 GxR
theorem same_put {H Hc : Hp} {D : Addr} {o : HO} (s : Same H Hc) (n : H D = none) : Same H (upd Hc D o) := by
  have ne : ∀ {b : Addr} {u : HO}, H b = some u → b ≠ D := fun e => ne_of_none e n
  refine ⟨fun b u e nt => ?_, fun b e => ?_, fun P ⟨ps, e, t⟩ => ?_⟩
  · rw [upd_ne (ne e)]
    exact s.at_ b u e nt
  · by_cases z : b = D
    · rw [z] at e
      exact absurd n e
    · rw [upd_ne z]
      exact s.has b e
  · obtain ⟨qs, f, u⟩ := s.tab P ⟨ps, e, t⟩
    exact ⟨qs, by rw [upd_ne (ne e)]; exact f, u⟩
/-- a valid job's parts -/
theorem job_parts {d : PyData} (h : jobD d = true) : ∃ (n k : Str) (t e : Int), d = .tuple [.str n, .tuple [.str k, .int t], .int e] ∧ nameD (.str n) = true ∧ (k = "at" ∨ k = "after") := by
  have ht : tupleND 3 d = true := by
    cases h2 : tupleND 3 d with
    | true => rfl
    | false =>
      rw [job_not h2] at h
      cases h
  obtain ⟨n, a, e, rfl⟩ := tup_three ht
  obtain ⟨h1, h2⟩ := Bool.and_eq_true_iff.mp (show (nameD n && (arrivalD a && (integerD 0 e && le9 e))) = true from h)
  obtain ⟨h3, h4⟩ := Bool.and_eq_true_iff.mp h2
  obtain ⟨h5, _⟩ := Bool.and_eq_true_iff.mp h4
  have hta : tupleND 2 a = true := by
    cases h6 : tupleND 2 a with
    | true => rfl
    | false =>
      rw [arr_not h6] at h3
      cases h3
  obtain ⟨k, x, rfl⟩ := tup_two hta
  have h7 : (if atS "at" k = true then integerD 0 x else (atS "after" k && integerD 1 x)) = true := h3
  have intOf : ∀ {m : Int} {q : PyData}, integerD m q = true → ∃ i, q = .int i := fun {m q} z => by
    cases q with
    | int i => exact ⟨i, rfl⟩
    | _ => cases z
  have strOf : ∀ {s : Str} {q : PyData}, atS s q = true → q = .str s := fun {s q} z => by
    cases q with
    | str x => exact congrArg PyData.str (of_decide_eq_true z)
    | _ => cases z
  obtain ⟨e', rfl⟩ := intOf h5
  cases n with
  | str nm =>
    by_cases h8 : atS "at" k = true
    · rw [if_pos h8] at h7
      obtain ⟨t, rfl⟩ := intOf h7
      have z := strOf h8
      subst z
      exact ⟨nm, _, t, e', rfl, h1, .inl rfl⟩
    · rw [if_neg h8] at h7
      obtain ⟨h9, h10⟩ := Bool.and_eq_true_iff.mp h7
      obtain ⟨t, rfl⟩ := intOf h10
      have z := strOf h9
      subst z
      exact ⟨nm, _, t, e', rfl, h1, .inr rfl⟩
  | _ => cases h1
/-- an arrival before so many finishes -/
def befA (m : Int) : PyData → Bool
  | .tuple [k, .int t] => atS "at" k || decide (t < m)
  | _ => false
def arrD : PyData → PyData
  | .tuple [_, a, _] => a
  | d => d
def waitsD (js : List PyData) (d : PyData) : Bool := match arrD d with
  | .tuple [k, .int m] => !atS "at" k && decide ((((js.map arrD).countP (befA m) : Nat) : Int) < m)
  | _ => false
theorem nice_of {d : PyData} (h : jobD d = true) : niceJob d := by
  obtain ⟨n, k, t, e, rfl, hn, _⟩ := job_parts h
  refine ⟨?_, rfl⟩
  have z : (decide (1 ≤ n.length) && (decide (n.length ≤ 8) && n.cps.toList.all (between "a" "z"))) = true := hn
  have z2 := of_decide_eq_true (Bool.and_eq_true_iff.mp (Bool.and_eq_true_iff.mp z).2).1
  show n.length ≤ 1000
  omega
section
variable {P : Program} {w : World} {K : PySem.W.Frag} {mg : Str → Option Value} {base : Heap}
def spWaits (K : PySem.W.Frag) : Sp := fun vs H Q _ => ∃ (v u : V) (d : PyData) (js : List PyData), vs = [v, u] ∧ Dp K H v d ∧ Dp K H u (.tuple js) ∧ jobD d = true ∧ js.all jobD = true ∧ js.length ≤ 1000 ∧ ∀ H', Same H H' → Q (.bl (waitsD js d)) H'
theorem scWaits : FnScope ["job", "jobs", "kind", "number", "arrivals", "ahead", "other"] ["job", "jobs"] (defScope sWaits) := ⟨rfl, rfl, rfl, by decide +kernel, rfl, by decide +kernel, by decide +kernel⟩
theorem ok_waits (D : Df K mg "waits_forever" sWaits ["job", "jobs"]) (B : Blt mg) : Cl P w K mg base CX0 1 "waits_forever" ["job", "jobs"] (spWaits K) := by
  refine cl0 D scWaits (fun vs H Q E h => ?_) (fun f cdv A outer s H vs Q E hr h => ?_)
  · obtain ⟨v, u, d, js, rfl, _⟩ := h
    rfl
  · obtain ⟨v, u, d, js, rfl, hd, hj, jd, okj, l1000, k⟩ := h
    refine ⟨_, pss_cons (ps_asg (pe_ix ix_tup (pv 0) pe_int (fun _ _ => rfl)) (pg_tup rfl (pgs_cons (pg_name (i := 2) scWaits.nd rfl (.inl rfl)) (pgs_cons (pg_name (i := 3) scWaits.nd rfl (.inr rfl)) pgs_nil))))
      (pss_cons (ps_if (pt_cmpR op_eq (pv 2) pe_str (nomark _)) (pss_one (ps_ret pe_bl)) pss_nil)
      (pss_cons (ps_setLc (i := 4) (own := [("other", 6)]) (g := gName 6) (tt := tYes) (te := tOp (rIxT K) (tVar 6) (tC (.int 1))) rfl scWaits.nd rfl rfl (sw_true rfl rfl rfl (by decide +kernel)) (pi_tup (pv 1)) (blkOk_by (own := [("other", 6)]) (N := ["job", "jobs", "kind", "number", "arrivals", "ahead", "other"]) (sc := defScope sWaits) (by decide +kernel))
        (fun _ _ _ _ _ => pg_name (i := 6) scWaits.nd rfl (Or.inl rfl)) (fun _ _ _ _ _ => pts_nil) (fun _ _ _ _ _ => pe_ix ix_tup (pv 6) pe_int (fun _ _ => rfl)))
      (pss_cons (ps_setLc (i := 5) (own := [("other", 6)]) (g := gName 6) (tt := tOr (tTest (tOp rEq (tOp (rIxT K) (tVar 6) (tC (.int 0))) (tC (.str ("at" : Str))))) (tTest (tOp (rI0 fun i j => .bl (decide (i < j))) (tOp (rIxT K) (tVar 6) (tC (.int 1))) (tVar 3)))) (te := tVar 6) rfl scWaits.nd rfl rfl (sw_true rfl rfl rfl (by decide +kernel)) (pi_list (pv 4)) (blkOk_by (own := [("other", 6)]) (N := ["job", "jobs", "kind", "number", "arrivals", "ahead", "other"]) (sc := defScope sWaits) (by decide +kernel))
        (fun _ _ _ _ _ => pg_name (i := 6) scWaits.nd rfl (Or.inl rfl)) (fun _ _ _ _ _ => pts_one (PW.pt (pw_or (pt_cmpR op_eq (pe_ix ix_tup (pv 6) pe_int (fun _ _ => rfl)) pe_str (nomark _)) (pw_or1 (pt_cmpR op_lt (pe_ix ix_tup (pv 6) pe_int (fun _ _ => rfl)) (pv 3) (nomark _))))))
        (fun _ _ _ _ _ => pv 6))
      (pss_one (ps_ret (pe_cmpR op_lt (pe_callB call_len_seq (by rfl) B.len PySem.boot_len (pa_cons (pv 5) pa_nil)) (pv 3) (nomark _))))))), ?_⟩
    obtain ⟨n, kd, t, e, rfl, hn, hk⟩ := job_parts jd
    obtain ⟨p, x, y, z, rfl, q, dn, da, de⟩ := dp_three hd
    obtain ⟨pa, kv, tv, rfl, qa, dk, dt⟩ := dp_two da
    have ek := dp_str dk
    subst ek
    have et := dp_int dt
    subst et
    obtain ⟨pj, xs, rfl, qj, rj⟩ := dp_tuple hj
    have xl := dps_len rj
    have we : waitsD js (.tuple [.str n, .tuple [.str kd, .int t], .int e]) = (!decide (kd = "at") && decide ((((js.map arrD).countP (befA t) : Nat) : Int) < t)) := rfl
    refine ⟨_, rfl, p, _, _, _, rfl, rfl, q, rfl, pa, _, rfl, qa, rfl, _, _, rfl, _, _, rfl, rfl, ?_⟩
    refine ⟨_, rfl, rfl, _, rfl, ?_⟩
    have eS := eq_S (s := ("at" : Str)) dk
    rw [eS]
    have kk : ∀ H', Same H H' → ∀ b, waitsD js (.tuple [.str n, .tuple [.str kd, .int t], .int e]) = b → Q (.bl b) H' := fun H' s1 b e => by
      have z := k H' s1
      rw [e] at z
      exact z
    cases hat : atS "at" (.str kd) with
    | true =>
      refine iteT (kk H (Same.refl H) _ ?_)
      rw [we, show decide (kd = "at") = true from hat]
      rfl
    | false =>
      refine iteF ?_
      -- arrivals
      refine ⟨_, rfl, pj, rfl, ⟨_, qj⟩, fun D1 nD1 => ?_⟩
      refine lc_it (walk_tup (K := K) (a := pj) (xs := xs)) (fun m Hc => ∃ acc, Same H Hc ∧ Hc D1 = some (.lst acc) ∧ DpAll K H acc ((js.map arrD).take m))
        ⟨[], same_new nD1, upd_same, .nil⟩ (fun m Hc _ ⟨acc, s1, _⟩ => same_seqT s1 qj) ?_ ?_
      · rintro m y1 Hc Hc2 hm ⟨acc, s1, hD, dac⟩ ⟨rfl, hy1⟩
        obtain ⟨e1, he1, de1⟩ := dps_getV rj hy1
        obtain ⟨n1, k1, t1, x1, rfl, _, _⟩ := job_parts (List.all_eq_true.mp okj e1 (List.mem_of_getElem? he1))
        obtain ⟨p1, v1, v2, v3, rfl, q1, dv1, dv2, dv3⟩ := dp_three de1
        refine ⟨rfl, ?_⟩
        refine ⟨_, rfl, p1, _, _, _, rfl, rfl, same_seqT s1 q1, rfl, acc, hD, ?_, acc ++ [v2], same_put s1 nD1, upd_same, ?_⟩
        · have z := dps_len dac
          rw [List.length_take, List.length_map] at z
          exact Nat.lt_of_le_of_lt (show acc.length ≤ 1000 by omega) (by decide)
        · have e2 : (js.map arrD).take (m + 1) = (js.map arrD).take m ++ [.tuple [.str k1, .int t1]] := by
            rw [List.take_add_one, List.getElem?_map, he1]
            rfl
          rw [e2]
          exact dps_app dac (.cons dv2 .nil)
      · rintro Hc ⟨acc, s1, hD, dac⟩
        rw [show (js.map arrD).take xs.length = js.map arrD from List.take_of_length_le (by rw [List.length_map]; omega)] at dac
        have al := dps_len dac
        rw [List.length_map] at al
        -- ahead
        refine ⟨_, rfl, D1, rfl, ⟨_, SqL.of hD⟩, fun D2 nD2 => ?_⟩
        have n21 : D1 ≠ D2 := ne_of_none hD nD2
        refine lc_it (walk_list (K := K) (a := D1) (xs := acc)) (fun m Hd => ∃ ac2, Same Hc Hd ∧ Hd D2 = some (.lst ac2) ∧ ac2.length = ((js.map arrD).take m).countP (befA t))
          ⟨[], same_new nD2, upd_same, rfl⟩ (fun m Hd _ ⟨ac2, s2, _⟩ => SqL.of (s2.at hD)) ?_ ?_
        · rintro m y1 Hd0 Hd hm ⟨ac2, s2, hD2, lc2⟩ ⟨rfl, hy1⟩
          obtain ⟨e1, he1, de1⟩ := dps_getV dac hy1
          have he1' := he1
          rw [List.getElem?_map] at he1'
          obtain ⟨j1, hj1, rfl⟩ := Option.map_eq_some_iff.mp he1'
          obtain ⟨n1, k1, t1, x1, rfl, _, hk1⟩ := job_parts (List.all_eq_true.mp okj j1 (List.mem_of_getElem? hj1))
          obtain ⟨p1, v1, v2, rfl, q1, dv1, dv2⟩ := dp_two (show Dp K H y1 (.tuple [.str k1, .int t1]) from de1)
          have ek1 := dp_str dv1
          subst ek1
          have et1 := dp_int dv2
          subst et1
          have q2 := same_seqT (s1.trans s2) q1
          have e2 : ((js.map arrD).take (m + 1)).countP (befA t) = ((js.map arrD).take m).countP (befA t) + (if befA t (.tuple [.str k1, .int t1]) = true then 1 else 0) := by
            rw [List.take_add_one, he1]
            show ((js.map arrD).take m ++ [PyData.tuple [.str k1, .int t1]]).countP (befA t) = _
            rw [List.countP_append, List.countP_singleton]
          have bl : befA t (.tuple [.str k1, .int t1]) = (decide (k1 = "at") || decide (t1 < t)) := rfl
          have small : ac2.length < sizeLine := by
            have z : ((js.map arrD).take m).countP (befA t) ≤ ((js.map arrD).take m).length := List.countP_le_length
            rw [List.length_take, List.length_map] at z
            exact Nat.lt_of_le_of_lt (show ac2.length ≤ 1000 by omega) (by decide)
          have yes : befA t (.tuple [.str k1, .int t1]) = true → ∃ ac, Same Hc (upd Hd D2 (.lst (ac2 ++ [V.ref p1]))) ∧ (upd Hd D2 (.lst (ac2 ++ [V.ref p1]))) D2 = some (.lst ac) ∧ ac.length = ((js.map arrD).take (m + 1)).countP (befA t) := fun hb => by
            refine ⟨_, same_put s2 nD2, upd_same, ?_⟩
            rw [e2, if_pos hb, List.length_append, List.length_singleton, lc2]
          have no : befA t (.tuple [.str k1, .int t1]) = false → ∃ ac, Same Hc Hd ∧ Hd D2 = some (.lst ac) ∧ ac.length = ((js.map arrD).take (m + 1)).countP (befA t) := fun hb => by
            refine ⟨ac2, s2, hD2, ?_⟩
            rw [e2, if_neg (by rw [hb]; exact Bool.false_ne_true), lc2]
            rfl
          refine ⟨rfl, _, rfl, p1, _, _, _, rfl, rfl, q2, rfl, rfl, _, rfl, ?_⟩
          rw [eq_S (s := ("at" : Str)) dv1]
          cases h1 : atS "at" (.str k1) with
          | true => exact iteT (iteT ⟨_, rfl, ac2, hD2, small, yes (by rw [bl, show decide (k1 = "at") = true from h1]; rfl)⟩)
          | false =>
            refine iteF ⟨_, rfl, p1, _, _, _, rfl, rfl, q2, rfl, _, rfl, _, _, rfl, rfl, _, rfl, ?_⟩
            cases h2 : decide (t1 < t) with
            | true => exact iteT ⟨_, rfl, ac2, hD2, small, yes (by rw [bl, h2, Bool.or_true])⟩
            | false => exact iteF (no (by rw [bl, show decide (k1 = "at") = false from h1, h2]; rfl))
        · rintro Hd ⟨ac2, s2, hD2, lc2⟩
          rw [show (js.map arrD).take acc.length = js.map arrD from List.take_of_length_le (by rw [List.length_map]; omega)] at lc2
          refine ⟨_, rfl, D2, ac2, rfl, .inl (SqL.of hD2), _, rfl, _, _, rfl, rfl, ?_⟩
          refine kk Hd (s1.trans s2) _ ?_
          rw [we, show decide (kd = "at") = false from hat, lc2]
          rfl
end
end Vk
namespace Vk
open PySem PySem.Spec PyProof.Rows L2 GxR
abbrev sJobsInit : Stmt := inClass (top 2) 0
def nameOf : PyData → Str
  | .tuple [.str n, _, _] => n
  | _ => ""
def badAt (js : List PyData) (i : Nat) : Bool := match js[i]? with
  | some d => !jobD d || ((js.take i).map nameOf).any (fun y => y == nameOf d)
  | none => false
def waitAt (js : List PyData) (i : Nat) : Bool := match js[i]? with
  | some d => waitsD js d
  | none => false
def eachPlace (js : List PyData) : Option Nat := (List.range js.length).find? (badAt js)
def waitPlace (js : List PyData) : Option Nat := (List.range js.length).find? (waitAt js)
/-- the place of the first fault of jobs -/
def jobsPlace : PyData → Option Int
  | .tuple js => match eachPlace js with
    | some i => some (i : Int)
    | none => match waitPlace js with
      | some i => some (i : Int)
      | none => none
  | _ => some 0
def niceJobs : PyData → Prop
  | .tuple js => (∀ d ∈ js, niceJob d) ∧ js.length ≤ 900
  | _ => True
theorem find_at {n i : Nat} {p : Nat → Bool} (h : i < n) (hp : p i = true) (ok : ∀ j < i, p j = false) : (List.range n).find? p = some i := by
  rw [List.find?_range_eq_some]
  refine ⟨hp, List.mem_range.mpr h, fun j hj => ?_⟩
  rw [ok j hj]
  rfl
theorem find_no {n : Nat} {p : Nat → Bool} (ok : ∀ j < n, p j = false) : (List.range n).find? p = none := by
  rw [List.find?_eq_none]
  intro j hj
  rw [ok j (List.mem_range.mp hj)]
  exact Bool.false_ne_true
theorem inV_strs {n : Str} : ∀ ns : List Str, inV (.str n) (ns.map V.str) = ns.any (fun y => y == n)
  | [] => rfl
  | x :: ns => by
    have ih := inV_strs (n := n) ns
    show ((x == n) || inV (.str n) (ns.map V.str)) = ((x == n) || ns.any (fun y => y == n))
    rw [ih]
theorem flat_strs (ns : List Str) : (ns.map V.str).all flatV = true := by
  rw [List.all_eq_true]
  intro x hx
  obtain ⟨y, _, rfl⟩ := List.mem_map.mp hx
  rfl
/-- where no job is bad all are valid -/
theorem each_all {js : List PyData} (ok : ∀ j < js.length, badAt js j = false) : js.all jobD = true := by
  rw [List.all_eq_true]
  intro x hx
  obtain ⟨j, hj, e⟩ := List.getElem_of_mem hx
  have z := ok j hj
  unfold badAt at z
  rw [List.getElem?_eq_getElem hj, e] at z
  cases h : jobD x with
  | true => rfl
  | false =>
    have z' : (!jobD x || ((js.take j).map nameOf).any (fun y => y == nameOf x)) = false := z
    rw [h] at z'
    cases z'
section
variable {P : Program} {w : World} {K : PySem.W.Frag} {mg : Str → Option Value} {base : Heap}
theorem scJobsInit : FnScope ["self", "place"] ["self", "place"] (defScope sJobsInit) := ⟨rfl, rfl, rfl, by decide +kernel, rfl, by decide +kernel, by decide +kernel⟩
theorem ok_jobsInit {C fI : Addr} {fd : FuncData} (F : Fun K "__init__" "NoJobs.__init__" sJobsInit fI fd) (T : OexC K C) (no : PySem.W.findIn K (.ref C) "place" = some none) : FnOk P w K mg base CX0 1 fI fd ["self", "place"] (spIni C "place") := by
  refine F.ok scJobsInit (fun vs H Q E h => ?_) (fun cdv A outer s H vs Q E hr h => ?_)
  · obtain ⟨a, v, rfl, _⟩ := h
    rfl
  · obtain ⟨a, v, rfl, ha, k⟩ := h
    refine ⟨_, pss_one (ps_ost (pv 0) (pv 1)), ?_⟩
    exact ⟨_, rfl, _, rfl, a, C, rfl, T, no, .inl ⟨ha, fun dx n1 n2 => k dx n1 n2⟩⟩
theorem erc_jobs {C : Addr} (g : mg "NoJobs" = some (.ref C)) (T : OexC K C) (no : PySem.W.findIn K (.ref C) "place" = some none) (N : Nit K "NoJobs" "NoJobs.__init__" "place" sJobsInit C) : ErC P w K mg base "NoJobs" "place" C := by
  obtain ⟨fI, fd, h1, h2, h3, h4⟩ := N.ex
  exact ⟨g, T, fI, fd, h1, h2, h4, ok_jobsInit h3 T no⟩
def spEach (K : PySem.W.Frag) (T C : Addr) : Sp := fun vs H Q E => ∃ (v : V) (js : List PyData), vs = [v] ∧ Dp K H v (.tuple js) ∧ (∀ d ∈ js, niceJob d) ∧ js.length ≤ 900 ∧ TabG H T ∧ (eachPlace js = none → ∀ H', Same H H' → Q .non H') ∧
  (∀ i, eachPlace js = some i → ∀ (dx : Addr) (H' : Hp), Same H H' → H' dx = some (.xd [(("place" : Str), .int (i : Nat))]) → E (.ref C) (some dx) H')
theorem scEach : FnScope ["jobs", "names", "place", "job"] ["jobs"] (defScope sEach) := ⟨rfl, rfl, rfl, by decide +kernel, rfl, by decide +kernel, by decide +kernel⟩
theorem ok_each {T C : Addr} (D : Df K mg "check_each_job" sEach ["jobs"]) (B : Blt mg) (ER : ErC P w K mg base "NoJobs" "place" C) (J : Cl P w K mg base CX0 3 "is_job" ["job"] (spIsJob K T)) : Cl P w K mg base (L2.CX P w) 4 "check_each_job" ["jobs"] (spEach K T C) := by
  refine clX D scEach (fun vs H Q E h => ?_) (fun f cdv A outer s H vs Q E hr h => ?_)
  · obtain ⟨v, js, rfl, _⟩ := h
    rfl
  · obtain ⟨v, js, rfl, hd, nj, l900, tg, kN, kE⟩ := h
    refine ⟨_, pss_cons (ps_set (i := 1) scEach.nd rfl (Or.inl rfl) (pe_lst pa_nil))
      (pss_one (ps_for (passes_of rfl) rfl (pi_enumT B.enum (pa_cons (pv 0) pa_nil)) (pg_tup rfl (pgs_cons (pg_name (i := 2) scEach.nd rfl (.inl rfl)) (pgs_cons (pg_name (i := 3) scEach.nd rfl (.inl rfl)) pgs_nil)))
        (pss_cons (ps_if (PW.pt (pw_or (pt_not (pt_val (pc J hr (by decide) (pa_cons (pv 3) pa_nil)))) (pw_or1 (pt_cmpR op_in_seq (pe_ix ix_tup (pv 3) pe_int (fun _ _ => rfl)) (pv 1) (by rfl))))) (pss_one (ps_raiseE ER rfl hr (by decide) (takes_of rfl rfl rfl rfl) (pv 2))) pss_nil)
        (pss_one (ps_expr (pe_bm PySem.F.plainAttrs_list PySem.F.slot_list_append PySem.F.type_list_append mt_append (pv 1) (pa_cons (pe_ix ix_tup (pv 3) pe_int (fun _ _ => rfl)) pa_nil))))))), ?_⟩
    obtain ⟨pj, xs, rfl, qj, rj⟩ := dp_tuple hd
    have xl := dps_len rj
    refine ⟨(by show 0 ≤ sizeLine; decide), fun l nl => ?_⟩
    refine ⟨_, rfl, pj, xs, rfl, same_seqT (same_new nl) qj, for_it (walk_enumT (K := K) (a := pj) (xs := xs)) (fun i σ H' => ∃ (u2 u3 : Option V), σ = [some (.ref pj), some (.ref l), u2, u3] ∧ Same H H' ∧ H' l = some (.lst (((js.take i).map nameOf).map V.str)) ∧ ∀ j < i, badAt js j = false)
      ⟨none, none, rfl, same_new nl, upd_same, fun j hj => absurd hj (Nat.not_lt_zero _)⟩ (fun i σ H' _ ⟨_, _, _, s1, _⟩ => same_seqT s1 qj) ?_ ?_⟩
    · rintro i v1 σ H1 H2 hi ⟨u2, u3, rfl, s1, hl, ok⟩ ⟨TT, x1, y1, rfl, nT, rfl, ex, ey⟩
      cases ex
      obtain ⟨d1, hd1, dp1⟩ := dps_getV rj ey
      have s2 := s1.trans (same_new (o := .tup [V.int (i : Nat), y1]) nT)
      have hl2 : upd H1 TT (.tup [V.int (i : Nat), y1]) l = some (.lst (((js.take i).map nameOf).map V.str)) := (same_new nT).at hl
      refine ⟨TT, _, rfl, SqT.of upd_same, rfl, _, _, rfl, _, _, rfl, rfl, ?_⟩
      have ni := nj d1 (List.mem_of_getElem? hd1)
      refine ⟨_, rfl, y1, d1, rfl, dp_same s2 dp1, ni, s2.tab T tg, fun H3 s3 => ⟨_, rfl, ?_⟩⟩
      have s23 := s2.trans s3
      have bad : badAt js i = (!jobD d1 || ((js.take i).map nameOf).any (fun y => y == nameOf d1)) := by
        unfold badAt
        rw [hd1]
      cases hj : jobD d1 with
      | false =>
        refine iteT (iteT ⟨_, rfl, ?_⟩)
        refine raise_go fun dx H4 s4 _ hx => kE i ?_ dx H4 (s23.trans s4) hx
        exact find_at (by omega) (by rw [bad, hj]; rfl) ok
      | true =>
        obtain ⟨n1, k1, t1, x1, rfl, _, _⟩ := job_parts hj
        obtain ⟨p1, v1, v2, v3, rfl, q1, dv1, dv2, dv3⟩ := dp_three dp1
        have en := dp_str dv1
        subst en
        refine iteF ⟨_, rfl, p1, _, _, _, rfl, rfl, same_seqT s23 q1, rfl, _, rfl, l, _, rfl, .inl (SqL.of (s3.at hl2)), rfl, flat_strs _, _, rfl, ?_⟩
        show if inV (.str n1) (((js.take i).map nameOf).map V.str) = true then _ else _
        rw [inV_strs]
        cases hin : ((js.take i).map nameOf).any (fun y => y == n1) with
        | true =>
          refine iteT ⟨_, rfl, ?_⟩
          refine raise_go fun dx H4 s4 _ hx => kE i ?_ dx H4 (s23.trans s4) hx
          exact find_at (by omega) (by rw [bad, hj]; exact hin) ok
        | false =>
          have e2 : ((js.take (i + 1)).map nameOf).map V.str = ((js.take i).map nameOf).map V.str ++ [V.str n1] := by
            rw [List.take_add_one, hd1]
            simp [nameOf]
          refine iteF ⟨_, rfl, .inl ⟨rfl, _, SqL.of (s3.at hl2)⟩, _, rfl, p1, _, _, _, rfl, rfl, same_seqT s23 q1, rfl, l, _, _, rfl, rfl, s3.at hl2, ?_, _, _, rfl, same_put s23 nl, ?_, fun j hj2 => ?_⟩
          · rw [List.length_map, List.length_map, List.length_take]
            exact Nat.lt_of_le_of_lt (show min i js.length ≤ 900 by omega) (by decide)
          · rw [e2, upd_same]
          · by_cases z : j = i
            · subst z
              rw [bad, hj]
              exact hin
            · exact ok j (by omega)
    · rintro σ H1 ⟨u2, u3, rfl, s1, hl, ok⟩
      exact kN (find_no fun j hj => ok j (by omega)) H1 s1
def spCheck (K : PySem.W.Frag) (T C : Addr) : Sp := fun vs H Q E => ∃ (v : V) (d : PyData), vs = [v] ∧ Dp K H v d ∧ niceJobs d ∧ TabG H T ∧ (jobsPlace d = none → ∀ H', Same H H' → Q .non H') ∧
  (∀ i, jobsPlace d = some i → ∀ (dx : Addr) (H' : Hp), Same H H' → H' dx = some (.xd [(("place" : Str), .int i)]) → E (.ref C) (some dx) H')
theorem scCheck : FnScope ["jobs", "place", "job"] ["jobs"] (defScope sCheck) := ⟨rfl, rfl, rfl, by decide +kernel, rfl, by decide +kernel, by decide +kernel⟩
theorem ok_check {T C : Addr} (D : Df K mg "check_jobs" sCheck ["jobs"]) (B : Blt mg) (ER : ErC P w K mg base "NoJobs" "place" C) (EA : Cl P w K mg base (L2.CX P w) 4 "check_each_job" ["jobs"] (spEach K T C)) (W : Cl P w K mg base CX0 1 "waits_forever" ["job", "jobs"] (spWaits K)) :
    Cl P w K mg base (L2.CX P w) 5 "check_jobs" ["jobs"] (spCheck K T C) := by
  refine clX D scCheck (fun vs H Q E h => ?_) (fun f cdv A outer s H vs Q E hr h => ?_)
  · obtain ⟨v, d, rfl, _⟩ := h
    rfl
  · obtain ⟨v, d, rfl, hd, nj, tg, kN, kE⟩ := h
    obtain ⟨fE, fdE, mE, kpE, bE, FE⟩ := EA.ex
    refine ⟨_, pss_cons (ps_if (pt_not (pt_val (pe_callB call_isi (by rfl) B.isi (by decide +kernel) (pa_cons (pv 0) (pa_cons (pe_bltn (v := .ty "tuple") (u := .type "tuple") (by rfl) B.tuple (by decide +kernel) rfl) pa_nil))))) (pss_one (ps_raiseE ER rfl hr (by decide) (takes_of rfl rfl rfl rfl) pe_int)) pss_nil)
      (pss_cons (ps_expr (pe_call (E := E) FE hr rfl mE kpE bE .nil (passes_call (W := fun cls d _ H => E cls d H) (takes_of rfl rfl rfl rfl) (fun _ _ _ _ h => h)) (pa_cons (pv 0) pa_nil)))
      (pss_one (ps_for (passes_of rfl) rfl (pi_enumT B.enum (pa_cons (pv 0) pa_nil)) (pg_tup rfl (pgs_cons (pg_name (i := 1) scCheck.nd rfl (.inl rfl)) (pgs_cons (pg_name (i := 2) scCheck.nd rfl (.inl rfl)) pgs_nil)))
        (pss_one (ps_if (pt_val (pc W hr (by decide) (pa_cons (pv 2) (pa_cons (pv 0) pa_nil)))) (pss_one (ps_raiseE ER rfl hr (by decide) (takes_of rfl rfl rfl rfl) (pv 1))) pss_nil))))), ?_⟩
    refine ⟨_, rfl, v, _, _, _, _, rfl, .ty "tuple", dp_ty hd, kit_tup hd, _, rfl, ?_⟩
    cases htup : isTupD d with
    | false =>
      have e2 : jobsPlace d = some 0 := by
        cases d with
        | tuple ds => cases htup
        | _ => rfl
      refine iteT ?_
      exact raise_go fun dx H2 s1 _ hx => kE 0 e2 dx H2 s1 hx
    | true =>
      obtain ⟨js, rfl⟩ : ∃ js, d = .tuple js := by
        cases d with
        | tuple ls => exact ⟨ls, rfl⟩
        | _ => cases htup
      refine iteF ⟨_, rfl, v, js, rfl, hd, nj.1, nj.2, tg, fun e1 H1 s1 => ?_, fun i e1 dx H1 s1 hx => ?_⟩
      · have e2 : jobsPlace (.tuple js) = match waitPlace js with
          | some i => some (i : Int)
          | none => none := by
          show (match eachPlace js with
            | some i => some (i : Int)
            | none => match waitPlace js with
              | some i => some (i : Int)
              | none => none) = _
          rw [e1]
        have okall := each_all (js := js) (fun j hj => by
          have z := List.find?_eq_none.mp e1 j (List.mem_range.mpr hj)
          exact Bool.eq_false_iff.mpr z)
        obtain ⟨pj, xs, rfl, qj, rj⟩ := dp_tuple hd
        have xl := dps_len rj
        refine ⟨_, rfl, pj, xs, rfl, same_seqT s1 qj, for_it (walk_enumT (K := K) (a := pj) (xs := xs)) (fun i σ H' => ∃ (u1 u2 : Option V), σ = [some (.ref pj), u1, u2] ∧ Same H H' ∧ ∀ j < i, waitAt js j = false)
          ⟨none, none, rfl, s1, fun j hj => absurd hj (Nat.not_lt_zero _)⟩ (fun i σ H' _ ⟨_, _, _, s1, _⟩ => same_seqT s1 qj) ?_ ?_⟩
        · rintro i v1 σ H2 H3 hi ⟨u1, u2, rfl, s2, ok⟩ ⟨TT, x1, y1, rfl, nT, rfl, ex, ey⟩
          cases ex
          obtain ⟨d1, hd1, dp1⟩ := dps_getV rj ey
          have s3 := s2.trans (same_new (o := .tup [V.int (i : Nat), y1]) nT)
          refine ⟨TT, _, rfl, SqT.of upd_same, rfl, _, _, rfl, _, _, rfl, rfl, ?_⟩
          have wt : waitAt js i = waitsD js d1 := by
            unfold waitAt
            rw [hd1]
          refine ⟨_, rfl, _, rfl, y1, _, d1, js, rfl, dp_same s3 dp1, dp_same s3 hd, List.all_eq_true.mp okall d1 (List.mem_of_getElem? hd1), okall, Nat.le_trans nj.2 (by decide), fun H4 s4 => ⟨_, rfl, ?_⟩⟩
          cases hw : waitsD js d1 with
          | true =>
            refine iteT ⟨_, rfl, ?_⟩
            refine raise_go fun dx H5 s5 _ hx => kE (i : Int) ?_ dx H5 ((s3.trans s4).trans s5) hx
            have z : waitPlace js = some i := find_at (by omega) (by rw [wt, hw]) ok
            rw [e2, z]
          | false =>
            refine iteF ⟨_, _, rfl, s3.trans s4, fun j hj2 => ?_⟩
            by_cases z : j = i
            · subst z
              rw [wt, hw]
            · exact ok j (by omega)
        · rintro σ H2 ⟨u1, u2, rfl, s2, ok⟩
          refine kN ?_ H2 s2
          have z : waitPlace js = none := find_no fun j hj => ok j (by omega)
          rw [e2, z]
      · refine kE (i : Int) ?_ dx H1 s1 hx
        show (match eachPlace js with
          | some i => some (i : Int)
          | none => match waitPlace js with
            | some i => some (i : Int)
            | none => none) = _
        rw [e1]
end
end Vk
namespace Vk
open PySem PySem.Spec PyProof.Rows L2 GxR
/-- an arrival at a moment up to m, or after up to f finishes -/
def reachA (m f : Int) : PyData → Bool
  | .tuple [k, .int t] => decide (t ≤ if atS "at" k = true then m else f)
  | _ => false
def countA (js : List PyData) (m f : Int) : Nat := (js.map arrD).countP (reachA m f)
theorem place_each {js : List PyData} (h : jobsPlace (.tuple js) = none) : js.all jobD = true := by
  have e1 : eachPlace js = none := by
    cases he : eachPlace js with
    | none => rfl
    | some i =>
      have z : (match eachPlace js with
        | some i => some (i : Int)
        | none => match waitPlace js with
          | some i => some (i : Int)
          | none => none) = none := h
      rw [he] at z
      cases z
  exact each_all fun j hj => Bool.eq_false_iff.mpr (List.find?_eq_none.mp e1 j (List.mem_range.mpr hj))
section
variable {P : Program} {w : World} {K : PySem.W.Frag} {mg : Str → Option Value} {base : Heap}
def spHas (K : PySem.W.Frag) : Sp := fun vs H Q _ => ∃ (v : V) (d : PyData) (m f : Int), vs = [v, .int m, .int f] ∧ Dp K H v d ∧ jobD d = true ∧ Q (.bl (reachA m f (arrD d))) H
theorem scHas : FnScope ["job", "moment", "finished", "kind", "number"] ["job", "moment", "finished"] (defScope sHas) := ⟨rfl, rfl, rfl, by decide +kernel, rfl, by decide +kernel, by decide +kernel⟩
theorem ok_has (D : Df K mg "has_arrived" sHas ["job", "moment", "finished"]) : Cl P w K mg base CX0 1 "has_arrived" ["job", "moment", "finished"] (spHas K) := by
  refine cl0 D scHas (fun vs H Q E h => ?_) (fun f cdv A outer s H vs Q E hr h => ?_)
  · obtain ⟨v, d, m, f, rfl, _⟩ := h
    rfl
  · obtain ⟨v, d, m, fi, rfl, hd, jd, k⟩ := h
    refine ⟨_, pss_cons (ps_asg (pe_ix ix_tup (pv 0) pe_int (fun _ _ => rfl)) (pg_tup rfl (pgs_cons (pg_name (i := 3) scHas.nd rfl (.inl rfl)) (pgs_cons (pg_name (i := 4) scHas.nd rfl (.inl rfl)) pgs_nil))))
      (pss_one (ps_ret (pe_cmpR op_le (pv 4) (pe_ifExp (pt_cmpR op_eq (pv 3) pe_str (nomark _)) (pv 1) (pv 2)) (nomark _)))), ?_⟩
    obtain ⟨n, kd, t, e, rfl, hn, hk⟩ := job_parts jd
    obtain ⟨p, x, y, z, rfl, q, dn, da, de⟩ := dp_three hd
    obtain ⟨pa, kv, tv, rfl, qa, dk, dt⟩ := dp_two da
    have ek := dp_str dk
    subst ek
    have et := dp_int dt
    subst et
    refine ⟨_, rfl, p, _, _, _, rfl, rfl, q, rfl, pa, _, rfl, qa, rfl, _, _, rfl, _, _, rfl, rfl, ?_⟩
    refine ⟨_, rfl, _, rfl, rfl, _, rfl, ?_⟩
    rw [eq_S (s := ("at" : Str)) dk]
    have re : reachA m fi (arrD (.tuple [.str n, .tuple [.str kd, .int t], .int e])) = decide (t ≤ if atS "at" (.str kd) = true then m else fi) := rfl
    rw [re] at k
    cases hat : atS "at" (.str kd) with
    | true =>
      rw [hat] at k
      exact iteT ⟨_, rfl, _, _, rfl, rfl, k⟩
    | false =>
      rw [hat] at k
      exact iteF ⟨_, rfl, _, _, rfl, rfl, k⟩
def spCount (K : PySem.W.Frag) : Sp := fun vs H Q _ => ∃ (v : V) (js : List PyData) (m f : Int), vs = [v, .int m, .int f] ∧ Dp K H v (.tuple js) ∧ js.all jobD = true ∧ js.length ≤ 900 ∧ ∀ H', Same H H' → Q (.int (countA js m f : Nat)) H'
theorem scCount : FnScope ["jobs", "moment", "finished", "job"] ["jobs", "moment", "finished"] (defScope sCount) := ⟨rfl, rfl, rfl, by decide +kernel, rfl, by decide +kernel, by decide +kernel⟩
theorem ok_count (D : Df K mg "count_arrived" sCount ["jobs", "moment", "finished"]) (B : Blt mg) (HA : Cl P w K mg base CX0 1 "has_arrived" ["job", "moment", "finished"] (spHas K)) : Cl P w K mg base CX0 2 "count_arrived" ["jobs", "moment", "finished"] (spCount K) := by
  refine cl0 D scCount (fun vs H Q E h => ?_) (fun f cdv A outer s H vs Q E hr h => ?_)
  · obtain ⟨v, d, m, f, rfl, _⟩ := h
    rfl
  · obtain ⟨v, js, m, fi, rfl, hd, okj, l900, k⟩ := h
    refine ⟨_, pss_one (ps_ret (pe_callB call_len_seq (by rfl) B.len PySem.boot_len (pa_cons (pe_lc (own := [("job", 3)]) (g := gName 3) (tt := tB (tCal (spHas K) (tCons (tVar 3) (tCons (tVar 1) (tCons (tVar 2) tNil))))) (te := tVar 3) (by rfl) scCount.nd (pi_tup (pv 0))
          (blkOk_by (own := [("job", 3)]) (N := ["jobs", "moment", "finished", "job"]) (sc := defScope sCount) (by decide +kernel))
          (fun _ _ _ _ _ => pg_name (i := 3) scCount.nd rfl (Or.inl rfl))
          (fun _ _ _ _ _ => pts_one (pt_val (pc HA hr (by decide) (pa_cons (pv 3) (pa_cons (pv 1) (pa_cons (pv 2) pa_nil)))))) (fun _ _ _ _ _ => pv 3)) pa_nil))), ?_⟩
    obtain ⟨pj, xs, rfl, qj, rj⟩ := dp_tuple hd
    have xl := dps_len rj
    refine ⟨_, rfl, pj, rfl, ⟨_, qj⟩, fun D1 nD1 => ?_⟩
    refine lc_it (walk_tup (K := K) (a := pj) (xs := xs)) (fun i Hc => ∃ acc, Same H Hc ∧ Hc D1 = some (.lst acc) ∧ acc.length = ((js.take i).map arrD).countP (reachA m fi))
      ⟨[], same_new nD1, upd_same, rfl⟩ (fun i Hc _ ⟨acc, s3, _⟩ => same_seqT s3 qj) ?_ ?_
    · rintro i y1 Hc Hc2 hm ⟨acc, s3, hD, lc⟩ ⟨rfl, hy1⟩
      obtain ⟨e1, he1, de1⟩ := dps_getV rj hy1
      have jd1 := List.all_eq_true.mp okj e1 (List.mem_of_getElem? he1)
      have e2 : ((js.take (i + 1)).map arrD).countP (reachA m fi) = ((js.take i).map arrD).countP (reachA m fi) + (if reachA m fi (arrD e1) = true then 1 else 0) := by
        rw [List.take_add_one, he1]
        show ((js.take i ++ [e1]).map arrD).countP (reachA m fi) = _
        rw [List.map_append, List.countP_append]
        show _ + [arrD e1].countP (reachA m fi) = _
        rw [List.countP_singleton]
      have small : acc.length < sizeLine := by
        have z : ((js.take i).map arrD).countP (reachA m fi) ≤ ((js.take i).map arrD).length := List.countP_le_length
        rw [List.length_map, List.length_take] at z
        exact Nat.lt_of_le_of_lt (show acc.length ≤ 1000 by omega) (by decide)
      refine ⟨rfl, _, rfl, _, rfl, _, rfl, y1, e1, m, fi, rfl, dp_same s3 de1, jd1, _, rfl, ?_⟩
      cases hb : reachA m fi (arrD e1) with
      | true =>
        refine iteT ⟨_, rfl, acc, hD, small, acc ++ [y1], same_put s3 nD1, upd_same, ?_⟩
        rw [e2, if_pos hb, List.length_append, List.length_singleton, lc]
      | false =>
        refine iteF ⟨acc, s3, hD, ?_⟩
        rw [e2, if_neg (by rw [hb]; exact Bool.false_ne_true), lc]
        rfl
    · rintro Hc ⟨acc, s3, hD, lc⟩
      rw [xl, List.take_length] at lc
      refine ⟨D1, acc, rfl, .inl (SqL.of hD), ?_⟩
      rw [lc]
      exact k Hc s3
end
end Vk
namespace Vk
open PySem PySem.Spec PyProof.Rows L2 GxR
def abc : Str := "abcdefghijklmnopqrstuvwxyz"
theorem lt_one {a b : Nat} : ([a] < [b]) ↔ a < b := by
  constructor
  · intro h
    cases h with
    | rel h => exact h
    | cons h => cases h
  · intro h
    exact List.Lex.rel h
theorem between_az (c : Nat) : between "a" "z" c = decide (97 ≤ c ∧ c ≤ 122) := by
  have e1 : (("a" : Str)).cps.toList = [97] := by decide +kernel
  have e2 : (("z" : Str)).cps.toList = [122] := by decide +kernel
  unfold between
  rw [e1, e2]
  by_cases h1 : c < 97
  · rw [decide_eq_true (lt_one.mpr h1), decide_eq_false (show ¬ (97 ≤ c ∧ c ≤ 122) by omega)]
    rfl
  · by_cases h2 : 122 < c
    · rw [decide_eq_true (lt_one.mpr h2), decide_eq_false (show ¬ (97 ≤ c ∧ c ≤ 122) by omega), Bool.not_true, Bool.and_false]
    · rw [decide_eq_false (fun h => h1 (lt_one.mp h)), decide_eq_false (fun h => h2 (lt_one.mp h)), decide_eq_true (show 97 ≤ c ∧ c ≤ 122 by omega)]
      rfl
theorem abc_list : abc.cps.toList = List.range' 97 26 := by decide +kernel
theorem mem_abc (c : Nat) : decide (c ∈ abc.cps.toList) = between "a" "z" c := by
  rw [between_az, abc_list]
  congr 1
  rw [List.mem_range'_1]
  exact propext ⟨fun h => by omega, fun h => by omega⟩
theorem b2_at {k : Str} : (if decide (k = "after") then (1 : Int) else 0) = if k = "after" then 1 else 0 := by
  by_cases h : k = "after"
  · rw [decide_eq_true h, if_pos h]
    rfl
  · rw [decide_eq_false h, if_neg h]
    rfl
section
variable {P : Program} {w : World} {K : PySem.W.Frag} {mg : Str → Option Value} {base : Heap}
def spBefore (K : PySem.W.Frag) : Sp := fun vs H Q _ => ∃ (v : V) (k : Str) (t m : Int), vs = [v, .int m] ∧ Dp K H v (.tuple [.str k, .int t]) ∧ Q (.bl (decide (k = "at") || decide (t < m))) H
theorem scBefore : FnScope ["arrival", "finishes"] ["arrival", "finishes"] (defScope sBefore) := ⟨rfl, rfl, rfl, by decide +kernel, rfl, by decide +kernel, by decide +kernel⟩
theorem ok_before (D : Df K mg "_law_before" sBefore ["arrival", "finishes"]) : Cl P w K mg base CX0 1 "_law_before" ["arrival", "finishes"] (spBefore K) := by
  refine cl0 D scBefore (fun vs H Q E h => ?_) (fun f cdv A outer s H vs Q E hr h => ?_)
  · obtain ⟨v, kd, t, m, rfl, _⟩ := h
    rfl
  · obtain ⟨v, kd, t, m, rfl, hd, k⟩ := h
    refine ⟨_, pss_one (ps_ret (pe_or (pe_cmpR op_eq (pe_ix ix_tup (pv 0) pe_int (fun _ _ => rfl)) pe_str (nomark _)) (pe_one (pe_cmpR op_lt (pe_ix ix_tup (pv 0) pe_int (fun _ _ => rfl)) (pv 1) (nomark _))))), ?_⟩
    obtain ⟨p, x, y, rfl, q, dx, dy⟩ := dp_two hd
    have ex := dp_str dx
    subst ex
    have ey := dp_int dy
    subst ey
    refine ⟨_, rfl, p, _, _, _, rfl, rfl, q, rfl, rfl, _, rfl, ?_⟩
    rw [eq_S (s := ("at" : Str)) dx]
    cases h1 : atS "at" (.str kd) with
    | true =>
      rw [show decide (kd = "at") = true from h1] at k
      exact iteT k
    | false =>
      rw [show decide (kd = "at") = false from h1] at k
      exact iteF ⟨_, rfl, p, _, _, _, rfl, rfl, q, rfl, _, rfl, _, _, rfl, rfl, k⟩
end
end Vk
namespace Vk
open PySem PySem.Spec PyProof.Rows L2 GxR
def optV : Option Int → V
  | some i => .int i
  | none => .non
/-- a slice from the beginning to an inner place -/
theorem slice_to {K : PySem.W.Frag} {H : Hp} {p : Addr} {xs : List V} {i : Nat} {Q : VK} (h : SqT K H p xs) (hi : i < xs.length) (k : ∀ t, H t = none → Q (.ref t) (upd H t (.tup (xs.take i)))) : rSlA K (.ref p) none (some (i : Int)) H Q := by
  have e2 : HT.sIx xs.length xs.length (some (i : Int)) = i := by rw [HT.sIx_nat]; omega
  have e1 : HT.sIx xs.length 0 none = 0 := rfl
  refine ⟨p, xs, rfl, h, fun w => ?_, fun _ t nt => ?_⟩
  · rw [e2] at w
    omega
  · have z := k t nt
    unfold cutV
    rw [e2, e1]
    exact z
theorem waits_kind {js : List PyData} {n k : Str} {t e : Int} (hk : k = "at" ∨ k = "after") : waitsD js (.tuple [.str n, .tuple [.str k, .int t], .int e]) = (decide (k = "after") && decide ((((js.map arrD).countP (befA t) : Nat) : Int) < t)) := by
  show (!decide (k = "at") && _) = _
  rcases hk with rfl | rfl <;> rfl
end Vk
namespace Vk
open PySem PySem.Spec PyProof.Rows L2 GxR
theorem cutR {α : Type} {R : α} {F : α → Prop} {G : Prop} (h : F R → G) (c : F R) : G := h c
def sgn (c : Nat) : Str := ⟨#[c]⟩
theorem off_none {a : Addr} {H : Hp} (h : H a = none) : Off a H = H := by
  funext b
  by_cases e : b = a
  · rw [e, off_same, h]
  · rw [off_ne e]
theorem off_free {a D : Addr} {H : Hp} (h : H D = none) : Off a H D = none := by
  by_cases e : D = a
  · rw [e, off_same]
  · rw [off_ne e, h]
/-- what was built beside the store and a cell is built beside the store -/
theorem kept_of_off {a l : Addr} {H G : Hp} (h : H l = none) (k : Same (Off l (Off a H)) (Off l (Off a G))) : Kept a H G := by
  rw [off_none (off_free h)] at k
  exact k.trans (off_sub l _)
theorem kept_new_put {a D : Addr} {o : HO} {H G : Hp} (k : Kept a H G) (h : H D = none) (n : D ≠ a) : Kept a H (upd G D o) := by
  unfold Kept
  rw [off_other n]
  exact same_put k (off_free h)
theorem atI_abc {r : Int} (h0 : 0 ≤ r) (h1 : r < 26) : atI abc.cps.toList r = some (97 + r.toNat) := by
  have e : ((r.toNat : Nat) : Int) = r := Int.toNat_of_nonneg h0
  rw [← e]
  refine atI_nat ?_
  rw [abc_list, List.getElem?_range' (by omega)]
  congr 1
  omega
theorem az_of {n : Nat} (h : n < 26) : between "a" "z" (97 + n) = true := by
  rw [between_az]
  exact decide_eq_true (by omega)
theorem nameD_iff {s : Str} : nameD (.str s) = true ↔ 1 ≤ s.cps.toList.length ∧ s.cps.toList.length ≤ 8 ∧ ∀ c ∈ s.cps.toList, between "a" "z" c = true := by
  show (decide (1 ≤ s.length) && (decide (s.length ≤ 8) && s.cps.toList.all (between "a" "z"))) = true ↔ _
  rw [Bool.and_eq_true_iff, Bool.and_eq_true_iff, decide_eq_true_iff, decide_eq_true_iff, List.all_eq_true, Array.length_toList]
  exact Iff.rfl
theorem joinL_one : ∀ cs : List Nat, TL.joinL [] (cs.map fun c => [c]) = cs
  | [] => rfl
  | [c] => rfl
  | c :: d :: r => by
    show [c] ++ ([] ++ TL.joinL [] ((d :: r).map fun c => [c])) = _
    rw [joinL_one (d :: r)]
    rfl
theorem join_sgn (cs : List Nat) : (Txt.join "" (cs.map sgn)).cps.toList = cs := by
  show TL.tl (Txt.join "" (cs.map sgn)) = cs
  rw [TL.join_eq, TL.tl_join, List.map_map]
  exact joinL_one cs
theorem lens_sgn (cs : List Nat) : ((cs.map sgn).map (·.length)).sum + (cs.map sgn).length * ("" : Str).length = cs.length := by
  rw [show (("" : Str)).length = 0 from by decide +kernel, Nat.mul_zero, Nat.add_zero, List.map_map]
  induction cs with
  | nil => rfl
  | cons c r ih =>
    rw [List.map_cons, List.sum_cons, ih, List.length_cons]
    show 1 + r.length = _
    omega
theorem cps_app (x y : Str) : (x ++ y).cps.toList = x.cps.toList ++ y.cps.toList := by
  show (x.cps ++ y.cps).toList = _
  rw [Array.toList_append]
theorem cut_to {z : Str} {i : Nat} (h : i ≤ z.cps.toList.length) : (cutS z none (some (i : Int))).cps.toList = z.cps.toList.take i := by
  have e : HT.sIx z.length z.length (some (i : Int)) = i := by
    rw [HT.sIx_nat]
    have : z.length = z.cps.toList.length := by rw [Array.length_toList]; rfl
    omega
  show ((z.cps.toList.drop 0).take (HT.sIx z.length z.length (some (i : Int)) - 0)) = _
  rw [e]
  rfl
theorem cut_from {z : Str} {i : Nat} (h : i ≤ z.cps.toList.length) : (cutS z (some (i : Int)) none).cps.toList = z.cps.toList.drop i := by
  have e0 : z.length = z.cps.toList.length := by rw [Array.length_toList]; rfl
  have e : HT.sIx z.length 0 (some (i : Int)) = i := by
    rw [HT.sIx_nat]
    omega
  show ((z.cps.toList.drop (HT.sIx z.length 0 (some (i : Int)))).take (z.length - HT.sIx z.length 0 (some (i : Int)))) = _
  rw [e]
  exact List.take_of_length_le (by rw [List.length_drop]; omega)
/-- the word of a late turn -/
def wordT (t : Nat) : Str := (sgn (97 + t % 26) ++ "q") ++ sgn (97 + t / 26 % 26)
theorem sub_len {α : Type} [DecidableEq α] : ∀ {l m : List α}, l.Nodup → (∀ x ∈ l, x ∈ m) → l.length ≤ m.length
  | [], _, _, _ => Nat.zero_le _
  | x :: l, m, h, s => by
    obtain ⟨h1, h2⟩ := List.nodup_cons.mp h
    have hx := s x (by simp)
    have z := sub_len (l := l) (m := m.erase x) h2 fun y hy => (List.mem_erase_of_ne (fun e : y = x => h1 (by rw [← e]; exact hy))).mpr (s y (by simp [hy]))
    have lx := List.length_erase_of_mem hx
    have pos := List.length_pos_of_mem hx
    rw [List.length_cons]
    omega
theorem words_nodup : (((List.range' 41 13).map wordT).map fun s => s.cps.toList).Nodup := by decide +kernel
theorem late {t : Nat} {ws : List Str} (h : ∀ s, 41 ≤ s → s ≤ t → wordT s ∈ ws) (l : ws.length < 12) : t ≤ 52 := by
  refine Nat.le_of_not_lt fun h53 => ?_
  have z := sub_len (l := ((List.range' 41 13).map wordT).map fun s => s.cps.toList) (m := ws.map fun s => s.cps.toList) words_nodup fun x hx => by
    obtain ⟨y, hy, rfl⟩ := List.mem_map.mp hx
    obtain ⟨s, hs, rfl⟩ := List.mem_map.mp hy
    obtain ⟨h1, h2⟩ := List.mem_range'_1.mp hs
    exact List.mem_map.mpr ⟨_, h s (by omega) (by omega), rfl⟩
  rw [List.length_map, List.length_map, List.length_map, List.length_range'] at z
  omega
theorem nameD_word (t : Nat) : nameD (.str (wordT t)) = true := by
  rw [nameD_iff]
  have e : (wordT t).cps.toList = [97 + t % 26, 113, 97 + t / 26 % 26] := by
    unfold wordT
    rw [cps_app, cps_app]
    rfl
  rw [e]
  refine ⟨Nat.succ_le_succ (Nat.zero_le _), (show 3 ≤ 8 by decide), fun c hc => ?_⟩
  simp only [List.mem_cons, List.not_mem_nil, or_false] at hc
  rcases hc with rfl | rfl | rfl
  · exact az_of (Nat.mod_lt _ (by decide))
  · exact az_of (n := 16) (by decide)
  · exact az_of (Nat.mod_lt _ (by decide))
def NW (sc a l : Addr) (n m : Int) (H : Hp) (M : Nat) (σ : L2.St) (G : Hp) : Prop := ∃ (t : Nat) (ws : List Str) (u5 u6 u7 : Option V), M + t = 60 ∧ σ = [some (.ref a), some (.int m), some (.str abc), some (.ref l), some (.int (t : Nat)), u5, u6, u7, none] ∧
  Sto sc a (n + 13 * t) G ∧ Same (Off l (Off a H)) (Off l (Off a G)) ∧ G l = some (.lst (ws.map V.str)) ∧ (∀ s ∈ ws, nameD (.str s) = true) ∧ (ws.length : Int) ≤ m ∧ (∀ s, 41 ≤ s → s ≤ t → wordT s ∈ ws) ∧ ws.Nodup
section
variable {P : Program} {w : World} {K : PySem.W.Frag} {mg : Str → Option Value} {base : Heap}
def spNames : Sp := fun vs H Q _ => ∃ (a sc : Addr) (n m : Int), vs = [.ref a, .int m] ∧ Sto sc a n H ∧ n ≤ 900000 ∧ 0 ≤ m ∧ m ≤ 12 ∧
  ∀ (l : Addr) (ws : List Str) (H' : Hp), H l = none → l ≠ a → Sto sc a (n + 800) H' → Kept a H H' → H' l = some (.lst (ws.map V.str)) → (ws.length : Int) = m → (∀ s ∈ ws, nameD (.str s) = true) → ws.Nodup → Q (.ref l) H'
theorem scNames : FnScope ["store", "count", "letters", "names", "turn", "word", "old", "at", "k"] ["store", "count"] (defScope sNames) := ⟨rfl, rfl, rfl, by decide +kernel, rfl, by decide +kernel, by decide +kernel⟩
theorem ok_names (D : Df K mg "_law_names" sNames ["store", "count"]) (B : Blt mg) (PK : Cl P w K mg base CX0 2 "_law_pick" ["store", "count"] spPick) : Cl P w K mg base CX0 3 "_law_names" ["store", "count"] spNames := by
  refine cl0 D scNames (fun vs H Q E h => ?_) (fun f cdv A outer s H vs Q E hr h => ?_)
  · obtain ⟨a, sc, n, m, rfl, _⟩ := h
    rfl
  · obtain ⟨a, sc, n, m, rfl, S, n1, m0, m12, k⟩ := h
    refine ⟨_, pss_cons (ps_set (i := 2) scNames.nd rfl (Or.inr rfl) pe_str)
      (pss_cons (ps_set (i := 3) scNames.nd rfl (Or.inl rfl) (pe_lst pa_nil))
      (pss_cons (ps_set (i := 4) scNames.nd rfl (Or.inl rfl) pe_int)
      (pss_cons (ps_while PassesOwn.never (pt_cmpR op_lt (pe_callB call_len_seq (by rfl) B.len PySem.boot_len (pa_cons (pv 3) pa_nil)) (pv 1) (nomark _))
        (pss_cons (ps_set (i := 4) scNames.nd rfl (Or.inl rfl) (pe_op op_add (pv 4) pe_int))
        (pss_cons (ps_set (i := 5) scNames.nd rfl (Or.inl rfl) (pe_join pe_str (pe_lc (own := [("k", 8)]) (g := gName 8) (tt := tYes) (te := tOp rIxS (tVar 2) (tCal spPick (tCons (tVar 0) (tCons (tC (.int 26)) tNil)))) (by rfl) scNames.nd (pi_range1 rfl B.range (pa_cons (pe_op op_add pe_int (pc PK hr (by decide) (pa_cons (pv 0) (pa_cons pe_int pa_nil)))) pa_nil))
            (blkOk_by (own := [("k", 8)]) (N := ["store", "count", "letters", "names", "turn", "word", "old", "at", "k"]) (sc := defScope sNames) (by decide +kernel)) (fun _ _ _ _ _ => pg_name (i := 8) scNames.nd rfl (Or.inl rfl)) (fun _ _ _ _ _ => pts_nil) (fun _ _ _ _ _ => pe_ix ix_str (pv 2) (pc PK hr (by decide) (pa_cons (pv 0) (pa_cons pe_int pa_nil))) (fun _ _ => rfl)))))
        (pss_cons (ps_if (PW.pt (pw_and (pt_cmpR (op_neNilL (Nat.lt_of_succ_lt (hu_of hr))) (pv 3) (pe_lst pa_nil) (nomark _)) (pw_and1 (pt_cmpR op_eq (pc PK hr (by decide) (pa_cons (pv 0) (pa_cons pe_int pa_nil))) pe_int (nomark _)))))
          (pss_cons (ps_set (i := 6) scNames.nd rfl (Or.inl rfl) (pe_ix ix_list (pv 3) (pc PK hr (by decide) (pa_cons (pv 0) (pa_cons (pe_callB call_len_seq (by rfl) B.len PySem.boot_len (pa_cons (pv 3) pa_nil)) pa_nil))) (fun _ _ => rfl)))
          (pss_cons (ps_set (i := 7) scNames.nd rfl (Or.inl rfl) (pc PK hr (by decide) (pa_cons (pv 0) (pa_cons (pe_callB call_len (by rfl) B.len PySem.boot_len (pa_cons (pv 6) pa_nil)) pa_nil))))
          (pss_one (ps_set (i := 5) scNames.nd rfl (Or.inl rfl) (pe_op op_add_str (pe_op op_add_str (pe_slice sl_str (pv 6) po_none (po_some (pv 7))) (pe_ix ix_str (pv 2) (pc PK hr (by decide) (pa_cons (pv 0) (pa_cons pe_int pa_nil))) (fun _ _ => rfl))) (pe_slice sl_str (pv 6) (po_some (pe_op op_add (pv 7) pe_int)) po_none)))))) pss_nil)
        (pss_cons (ps_if (pt_cmpR op_gt (pv 4) pe_int (nomark _)) (pss_one (ps_set (i := 5) scNames.nd rfl (Or.inl rfl) (pe_op op_add_str (pe_op op_add_str (pe_ix ix_str (pv 2) (pe_op op_mod (pv 4) pe_int) (fun _ _ => rfl)) pe_str) (pe_ix ix_str (pv 2) (pe_op op_mod (pe_op op_fdiv (pv 4) pe_int) pe_int) (fun _ _ => rfl))))) pss_nil)
        (pss_one (ps_if (pt_cmpR op_notIn_seq (pv 5) (pv 3) (by rfl)) (pss_one (ps_expr (pe_bm PySem.F.plainAttrs_list PySem.F.slot_list_append PySem.F.type_list_append mt_append (pv 3) (pa_cons (pv 5) pa_nil)))) pss_nil)))))))
      (pss_one (ps_ret (pv 3)))))), ?_⟩
    refine ⟨(by show 0 ≤ sizeLine; decide), fun l nl => ?_⟩
    have la : l ≠ a := S.ne nl
    have lsc : l ≠ sc := S.ne2 nl
    refine ⟨NW sc a l n m H, ⟨60, 0, [], none, none, none, rfl, rfl, (S.same (same_new nl)).more (by omega), off_mono (off_mono (same_new nl)), upd_same, (fun s hs => absurd hs (by simp)), m0, (fun s h1 h2 => by omega), List.nodup_nil⟩, ?_⟩
    rintro M σ G ⟨t, ws, u5, u6, u7, hM, rfl, SG, KG, lG, okw, lw, pw, nd⟩
    have lm : (ws.map V.str).length = ws.length := List.length_map ..
    refine ⟨_, rfl, l, _, rfl, .inl (SqL.of lG), _, rfl, _, _, rfl, rfl, _, rfl, ?_⟩
    refine ite2 (fun hlt => ?_) (fun hlt => ?_)
    case refine_2 =>
      have z : ¬ ((ws.map V.str).length : Int) < m := fun z => hlt (decide_eq_true z)
      exact ⟨_, rfl, k l ws G nl la (SG.more (by omega)) (kept_of_off nl KG) lG (by omega) okw nd⟩
    have z : ((ws.map V.str).length : Int) < m := of_decide_eq_true hlt
    rw [lm] at z
    have t52 := late pw (by omega)
    refine ⟨NW sc a l n m H (M - 1), fun σ' G' q => ⟨M - 1, by omega, q⟩, ?_⟩
    refine ⟨_, rfl, _, _, rfl, rfl, ?_⟩
    -- word
    refine ⟨⟨_, rfl⟩, _, rfl, a, sc, 8, _, rfl, by decide, by decide, SG, by omega, fun r G1 r0 r8 S1 K1 => ?_⟩
    refine ⟨_, _, rfl, rfl, 1 + r, rfl, by omega, by omega, fun D0 nD => ?_⟩
    have Da := S1.ne nD
    have Dsc := S1.ne2 nD
    have lG1 := K1.at lG la
    have nDG : G D0 = none := by
      have z := Same.free K1 (off_free nD)
      rw [off_ne Da] at z
      exact z
    have Dl : D0 ≠ l := fun e => by rw [e, lG1] at nD; cases nD
    refine lc_range (n := (1 + r).toNat) (fun i Hc => ∃ cs : List Nat, Sto sc a (n + 13 * t + 1 + i) Hc ∧ Kept a G Hc ∧ Hc D0 = some (.lst ((cs.map sgn).map V.str)) ∧ cs.length = i ∧ ∀ c ∈ cs, between "a" "z" c = true)
      ⟨[], (S1.same (same_new nD)).more (by omega), K1.trans (kept_same (same_new nD)), upd_same, rfl, fun c hc => absurd hc (by simp)⟩ ?_ ?_
    · rintro i Hc hi ⟨cs, Sc, Kc, hD, lc, okc⟩
      refine ⟨rfl, _, rfl, _, rfl, a, sc, 26, _, rfl, by decide, by decide, Sc, by omega, fun x Hd x0 x26 Sd Kd => ?_⟩
      refine ⟨abc, x, _, rfl, rfl, by decide +kernel, atI_abc x0 x26, _, Kd.at hD Da, ?_, cs ++ [97 + x.toNat], ?_, ?_, ?_, by rw [List.length_append, lc]; rfl, ?_⟩
      · rw [List.length_map, List.length_map, lc]
        exact Nat.lt_of_le_of_lt (show i ≤ 9 by omega) (by decide)
      · exact (Sd.other Da Dsc).more (by omega)
      · exact kept_new_put (Kc.trans Kd) nDG Da
      · rw [upd_same, List.map_append, List.map_append]
        rfl
      · intro c hc
        rcases List.mem_append.mp hc with hc | hc
        · exact okc c hc
        · rw [List.mem_singleton.mp hc]
          exact az_of (by omega)
    rintro G2 ⟨cs, S2, K2, hD, lc, okc⟩
    refine ⟨_, D0, cs.map sgn, rfl, rfl, .inl (SqL.of hD), ?_, ?_⟩
    · rw [lens_sgn, lc]
      omega
    have hw0 : nameD (.str (Txt.join "" (cs.map sgn))) = true := by
      rw [nameD_iff, join_sgn]
      exact ⟨by omega, by omega, okc⟩
    have S2' : Sto sc a (n + 13 * t + 9) G2 := S2.more (by omega)
    generalize Txt.join "" (cs.map sgn) = w0 at hw0 ⊢
    have lG2 := K2.at lG la
    apply cutR (α := L2.St → Hp → Prop) (F := fun R => ∀ (wd : Str) (G3 : Hp) (v6 v7 : Option V), nameD (.str wd) = true → Sto sc a (n + 13 * t + 13) G3 → Kept a G G3 → R [some (.ref a), some (.int m), some (.str abc), some (.ref l), some (.int (t + 1)), some (.str wd), v6, v7, none] G3)
    · intro cont
      refine ⟨_, rfl, (by show 0 ≤ sizeLine; decide), fun e1 ne1 => ?_⟩
      have se := same_new (o := .lst []) ne1
      have e1a := S2'.ne ne1
      refine ⟨l, e1, _, rfl, rfl, SqL.of (se.at lG2), SqL.of upd_same, _, rfl, ?_⟩
      have K3 := K2.trans (kept_same se)
      cases he : (ws.map V.str).isEmpty with
      | true => exact iteF (iteF (cont w0 _ _ _ hw0 ((S2'.same se).more (by omega)) K3))
      | false =>
        refine iteT ⟨_, rfl, a, sc, 2, _, rfl, by decide, by decide, S2'.same se, by omega, fun x G3 x0 x2 S3 K23 => ?_⟩
        have K4 := K3.trans K23
        have lG3 := K23.at (se.at lG2) la
        refine ⟨rfl, _, rfl, ?_⟩
        refine ite2 (fun _ => ?_) (fun _ => cont w0 _ _ _ hw0 (S3.more (by omega)) K4)
        have wpos : 0 < ws.length := by
          cases ws with
          | nil => cases he
          | cons x r => exact Nat.succ_pos _
        refine ⟨_, rfl, _, rfl, _, rfl, l, _, rfl, .inl (SqL.of lG3), a, sc, _, _, rfl, by omega, by omega, S3, by omega, fun y G4 y0 y2 S4 K34 => ?_⟩
        have lG4 := K34.at lG3 la
        obtain ⟨ov, hov, mov⟩ := atI_mem (xs := ws.map V.str) y0 (by omega)
        obtain ⟨old, mold, rfl⟩ := List.mem_map.mp mov
        obtain ⟨o1, o8, oaz⟩ := nameD_iff.mp (okw old mold)
        have oe : old.length = old.cps.toList.length := by rw [Array.length_toList]; rfl
        have osm : old.length ≤ sizeLine := Nat.le_trans (show old.length ≤ 8 by omega) (by decide)
        refine ⟨l, _, _, _, rfl, rfl, SqL.of lG4, hov, ?_⟩
        refine ⟨_, rfl, _, rfl, .str old, old.length, rfl, ⟨osm, rfl⟩, a, sc, _, _, rfl, by omega, by omega, S4, by omega, fun x G5 x0 x1 S5 K45 => ?_⟩
        obtain ⟨j, rfl⟩ := Int.eq_ofNat_of_zero_le x0
        refine ⟨_, rfl, ?_⟩
        dsimp only [tNoPart]
        refine ⟨_, rfl, _, rfl, old, rfl, osm, ?_⟩
        refine ⟨_, rfl, _, rfl, a, sc, 26, _, rfl, by decide, by decide, S5, by omega, fun q G6 q0 q26 S6 K56 => ?_⟩
        refine ⟨abc, q, _, rfl, rfl, by decide +kernel, atI_abc q0 q26, _, _, rfl, rfl, ?_, ?_⟩
        · exact Nat.le_trans (Nat.add_le_add_right (Nat.le_trans (cutS_length _ _ _) (show old.length ≤ 8 by omega)) 1) (by decide)
        refine ⟨_, rfl, _, rfl, _, _, rfl, rfl, _, rfl, ?_⟩
        dsimp only [tNoPart]
        have t1 : (cutS old none (some (j : Int))).cps.toList = old.cps.toList.take j := cut_to (by omega)
        have t2 : (cutS old (some ((j + 1 : Nat) : Int)) none).cps.toList = old.cps.toList.drop (j + 1) := cut_from (by omega)
        have tw : ((cutS old none (some (j : Int)) ++ sgn (97 + q.toNat)) ++ cutS old (some ((j + 1 : Nat) : Int)) none).cps.toList = (old.cps.toList.take j ++ [97 + q.toNat]) ++ old.cps.toList.drop (j + 1) := by
          rw [cps_app, cps_app, t1, t2]
          rfl
        refine ⟨old, rfl, osm, _, _, rfl, rfl, ?_, cont _ _ _ _ ?_ (S6.more (by omega)) (((K4.trans K34).trans K45).trans K56)⟩
        · refine Nat.le_trans (Nat.add_le_add (b := 9) (d := 8) (show (cutS old none (some (j : Int)) ++ sgn (97 + q.toNat)).length ≤ 9 from ?_) (Nat.le_trans (cutS_length _ _ _) (show old.length ≤ 8 by omega))) (by decide)
          rw [show ∀ s : Str, s.length = s.cps.toList.length from fun s => by rw [Array.length_toList]; rfl, cps_app, t1, List.length_append, List.length_take]
          show min j _ + 1 ≤ 9
          omega
        · show nameD (.str ((cutS old none (some (j : Int)) ++ sgn (97 + q.toNat)) ++ cutS old (some ((j + 1 : Nat) : Int)) none)) = true
          rw [nameD_iff, tw]
          refine ⟨?_, ?_, fun c hc => ?_⟩
          · simp only [List.length_append, List.length_take, List.length_drop, List.length_cons, List.length_nil]
            omega
          · simp only [List.length_append, List.length_take, List.length_drop, List.length_cons, List.length_nil]
            omega
          · rcases List.mem_append.mp hc with hc | hc
            · rcases List.mem_append.mp hc with hc | hc
              · exact oaz c (List.mem_of_mem_take hc)
              · rw [List.mem_singleton.mp hc]
                exact az_of (by omega)
            · exact oaz c (List.mem_of_mem_drop hc)
    · intro wd G3 v6 v7 hwd S3 K3
      have lG3 := K3.at lG la
      apply cutR (α := L2.St → Hp → Prop) (F := fun R => ∀ (wd : Str), nameD (.str wd) = true → (41 ≤ t + 1 → wd = wordT (t + 1)) → R [some (.ref a), some (.int m), some (.str abc), some (.ref l), some (.int (t + 1)), some (.str wd), v6, v7, none] G3)
      · intro cont
        refine ⟨_, rfl, _, _, rfl, rfl, _, rfl, ?_⟩
        refine ite2 (fun hl => ?_) (fun hl => cont wd hwd (fun h => absurd (decide_eq_true (show (40 : Int) < t + 1 by omega)) hl))
        refine ⟨_, rfl, _, rfl, _, _, rfl, rfl, (by show (0 : Int) < 26; decide), abc, _, _, rfl, rfl, by decide +kernel, atI_abc (by omega) (by omega), _, _, rfl, rfl, ?_, ?_⟩
        · show 1 + 1 ≤ sizeLine
          decide
        refine ⟨_, rfl, _, rfl, _, _, rfl, rfl, ⟨by decide, by omega⟩, _, _, rfl, rfl, (by show (0 : Int) < 26; decide), abc, _, _, rfl, rfl, by decide +kernel, atI_abc (by omega) (by omega), _, _, rfl, rfl, ?_, ?_⟩
        · show 2 + 1 ≤ sizeLine
          decide
        have e1 : (((t : Int) + 1) % 26).toNat = (t + 1) % 26 := by omega
        have e2 : (((t : Int) + 1) / 26 % 26).toNat = (t + 1) / 26 % 26 := by omega
        refine cont _ ?_ (fun _ => ?_)
        · show nameD (.str ((sgn (97 + (((t : Int) + 1) % 26).toNat) ++ "q") ++ sgn (97 + (((t : Int) + 1) / 26 % 26).toNat))) = true
          rw [e1, e2]
          exact nameD_word (t + 1)
        · show (sgn (97 + (((t : Int) + 1) % 26).toNat) ++ "q") ++ sgn (97 + (((t : Int) + 1) / 26 % 26).toNat) = _
          rw [e1, e2]
          rfl
      · intro wd hwd hlate
        have KF := KG.trans (off_mono (a := l) K3)
        refine ⟨_, rfl, _, rfl, l, _, rfl, .inl (SqL.of lG3), rfl, flat_strs _, _, rfl, ?_⟩
        show if (!inV (.str wd) (ws.map V.str)) = true then _ else _
        rw [inV_strs]
        cases hin : ws.any (fun y => y == wd) with
        | false =>
          refine iteT ⟨_, rfl, .inl ⟨rfl, _, SqL.of lG3⟩, _, rfl, l, _, _, rfl, rfl, lG3, ?_, t + 1, ws ++ [wd], _, _, _, by omega, rfl, (S3.other la lsc).more (by omega), ?_, ?_, ?_, ?_, ?_, ?_⟩
          · rw [lm]
            exact Nat.lt_of_le_of_lt (show ws.length ≤ 12 by omega) (by decide)
          · rw [off_other la, off_upd]
            exact KF
          · rw [upd_same, List.map_append]
            rfl
          · intro s hs
            rcases List.mem_append.mp hs with hs | hs
            · exact okw s hs
            · rw [List.mem_singleton.mp hs]
              exact hwd
          · rw [List.length_append, List.length_singleton]
            omega
          · intro s h1 h2
            by_cases e : s = t + 1
            · subst e
              rw [← hlate h1]
              simp
            · exact List.mem_append_left _ (pw s h1 (by omega))
          · rw [List.nodup_append]
            refine ⟨nd, by simp, fun x hx y hy e => ?_⟩
            rw [List.mem_singleton.mp hy] at e
            subst e
            have z : ws.any (fun y => y == x) = true := List.any_eq_true.mpr ⟨x, hx, by simp⟩
            rw [hin] at z
            cases z
        | true =>
          refine iteF ⟨t + 1, ws, _, _, _, by omega, rfl, S3.more (by omega), KF, lG3, okw, lw, (fun s h1 h2 => ?_), nd⟩
          by_cases e : s = t + 1
          · subst e
            rw [← hlate h1]
            obtain ⟨y, hy, e⟩ := List.any_eq_true.mp hin
            rw [← eq_of_beq e]
            exact hy
          · exact pw s h1 (by omega)
end
end Vk
namespace Vk
open PySem PySem.Spec PyProof.Rows L2 GxR
theorem atI_three {x0 x1 x2 : V} {r : Int} (h0 : 0 ≤ r) (h4 : r < 3) : ∃ x, atI [x0, x1, x2] r = some x ∧ (x = x0 ∨ x = x1 ∨ x = x2) := by
  have z : r = 0 ∨ r = 1 ∨ r = 2 := by omega
  rcases z with rfl | rfl | rfl
  · exact ⟨_, rfl, .inl rfl⟩
  · exact ⟨_, rfl, .inr (.inl rfl)⟩
  · exact ⟨_, rfl, .inr (.inr rfl)⟩
theorem arr_parts {a : PyData} (h : arrivalD a = true) : ∃ (k : Str) (t : Int), a = .tuple [.str k, .int t] ∧ (k = "at" ∨ k = "after") := by
  have hj : jobD (.tuple [.str "a", a, .int 0]) = true := by
    show (nameD (.str "a") && (arrivalD a && (integerD 0 (.int 0) && le9 (.int 0)))) = true
    rw [h]
    decide +kernel
  obtain ⟨n, k, t, e, e1, _, hk⟩ := job_parts hj
  cases e1
  exact ⟨k, t, rfl, hk⟩
theorem arr_at {i : Int} (h : 0 ≤ i) : arrivalD (.tuple [.str "at", .int i]) = true := by
  show (if atS "at" (.str "at") = true then integerD 0 (.int i) else (atS "after" (.str "at") && integerD 1 (.int i))) = true
  rw [if_pos (by decide +kernel)]
  exact decide_eq_true h
theorem arr_after {i : Int} (h : 1 ≤ i) : arrivalD (.tuple [.str "after", .int i]) = true := by
  show (if atS "at" (.str "after") = true then integerD 0 (.int i) else (atS "after" (.str "after") && integerD 1 (.int i))) = true
  rw [if_neg (by decide +kernel), show atS "after" (.str "after") = true from by decide +kernel, Bool.true_and]
  exact decide_eq_true h
theorem dps_set {K : PySem.W.Frag} {H : Hp} {v : V} {d : PyData} (hv : Dp K H v d) : ∀ {vs : List V} {ds : List PyData} (j : Nat), DpAll K H vs ds → DpAll K H (vs.set j v) (ds.set j d)
  | _, _, _, .nil => .nil
  | _, _, 0, .cons x r => .cons hv r
  | _, _, j + 1, .cons x r => .cons x (dps_set hv j r)
theorem ixN_nat {n j : Nat} (h : j < n) : ixN n ((0 : Int) + (j : Nat)) = some j := by
  rw [Int.zero_add]
  unfold ixN
  rw [if_pos (by omega), if_pos (by omega)]
  rfl
/-- a number that can be written -/
def bnd (d : PyData) : Prop := ∀ (k : PyData) (t : Int), d = .tuple [k, .int t] → t ≤ 1000000
theorem bnd_of {k : Str} {i : Int} (h : i ≤ 1000000) : bnd (.tuple [.str k, .int i]) := fun _ _ e => by
  cases e
  exact h
/-- who comes behind so many finishes comes -/
def OkA (ds : List PyData) (j : Nat) : Prop := ∀ m < j, ∀ (k : Str) (t : Int), ds[m]? = some (.tuple [.str k, .int t]) → k = "at" ∨ t ≤ (ds.countP (befA t) : Nat)
theorem OkA.next {ds : List PyData} {i : Nat} {k : Str} {t : Int} (o : OkA ds i) (h : ds[i]? = some (.tuple [.str k, .int t])) (ok : k = "at" ∨ t ≤ (ds.countP (befA t) : Nat)) : OkA ds (i + 1) := fun m hm k' t' h' => by
  by_cases e : m = i
  · subst e
    rw [h] at h'
    cases h'
    exact ok
  · exact o m (by omega) k' t' h'
theorem cnt_set {p : PyData → Bool} {b : PyData} (hb : p b = true) : ∀ (ds : List PyData) (i : Nat), ds.countP p ≤ (ds.set i b).countP p
  | [], _ => Nat.le_refl _
  | x :: ds, 0 => by
    rw [List.set_cons_zero, List.countP_cons, List.countP_cons, if_pos hb]
    split <;> omega
  | x :: ds, i + 1 => by
    rw [List.set_cons_succ, List.countP_cons, List.countP_cons]
    have z := cnt_set hb ds i
    omega
theorem OkA.put {ds : List PyData} {i : Nat} {r : Int} (o : OkA ds i) (hi : i < ds.length) : OkA (ds.set i (.tuple [.str "at", .int r])) (i + 1) := fun m hm k t h => by
  by_cases e : m = i
  · subst e
    rw [List.getElem?_set_self hi] at h
    cases h
    exact .inl rfl
  · rw [List.getElem?_set_ne (fun z => e z.symm)] at h
    rcases o m (by omega) k t h with z | z
    · exact .inl z
    · refine .inr (Int.le_trans z ?_)
      have q := cnt_set (p := befA t) (b := .tuple [.str "at", .int r]) rfl ds i
      omega
theorem not_before {α : Type} : ∀ {l : List α} {j : Nat} {x : α}, l.Nodup → l[j]? = some x → x ∉ l.take j
  | [], _, _, _, h => by cases h
  | y :: l, 0, x, _, _ => by simp
  | y :: l, j + 1, x, nd, h => by
    obtain ⟨n1, n2⟩ := List.nodup_cons.mp nd
    rw [List.getElem?_cons_succ] at h
    rw [List.take_succ_cons, List.mem_cons]
    rintro (e | e)
    · subst e
      exact n1 (List.mem_of_getElem? h)
    · exact not_before n2 h e
/-- jobs without a fault -/
theorem place_none {es : List PyData} (ok : ∀ e ∈ es, jobD e = true) (nd : (es.map nameOf).Nodup) (w : ∀ (k : Str) (t : Int), .tuple [.str k, .int t] ∈ es.map arrD → k = "at" ∨ t ≤ ((es.map arrD).countP (befA t) : Nat)) : jobsPlace (.tuple es) = none := by
  have h1 : eachPlace es = none := find_no fun j hj => by
    unfold badAt
    rw [List.getElem?_eq_getElem hj]
    show (!jobD es[j] || ((es.take j).map nameOf).any (fun y => y == nameOf es[j])) = false
    rw [ok _ (List.getElem_mem hj)]
    refine Bool.eq_false_iff.mpr fun z => ?_
    obtain ⟨y, hy, e⟩ := List.any_eq_true.mp (show ((es.take j).map nameOf).any (fun y => y == nameOf es[j]) = true from z)
    rw [eq_of_beq e, List.map_take] at hy
    exact not_before nd (by rw [List.getElem?_map, List.getElem?_eq_getElem hj]; rfl) hy
  have h2 : waitPlace es = none := find_no fun j hj => by
    unfold waitAt
    rw [List.getElem?_eq_getElem hj]
    have hm := List.getElem_mem hj
    show waitsD es es[j] = false
    obtain ⟨n, k, t, e, e1, _, hk⟩ := job_parts (ok _ hm)
    have ha : PyData.tuple [.str k, .int t] ∈ es.map arrD := List.mem_map.mpr ⟨es[j], hm, by rw [e1]; rfl⟩
    rw [e1, waits_kind hk]
    rcases w k t ha with z | z
    · rw [z]
      rfl
    · rw [decide_eq_false (Int.not_lt.mpr z), Bool.and_false]
  show (match eachPlace es with
    | some i => some (i : Int)
    | none => match waitPlace es with
      | some i => some (i : Int)
      | none => none) = none
  rw [h1, h2]
/-- different names, nobody waits forever -/
def Fine (es : List PyData) : Prop := (es.map nameOf).Nodup ∧ ∀ (k : Str) (t : Int), .tuple [.str k, .int t] ∈ es.map arrD → k = "at" ∨ t ≤ ((es.map arrD).countP (befA t) : Nat)
section
variable {P : Program} {w : World} {K : PySem.W.Frag} {mg : Str → Option Value} {base : Heap}
def JW (K : PySem.W.Frag) (sc a l : Addr) (N : Int) (H : Hp) (len : Nat) (Pz : List PyData → Prop) (G : Hp) : Prop := ∃ (xs : List V) (ds : List PyData), Sto sc a N G ∧ Same (Off l (Off a H)) (Off l (Off a G)) ∧ G l = some (.lst xs) ∧ DpAll K (Off l (Off a G)) xs ds ∧ ds.length = len ∧ (∀ d ∈ ds, arrivalD d = true) ∧ Pz ds
theorem JW.ok0 {K : PySem.W.Frag} {sc a l : Addr} {N : Int} {H G : Hp} {len : Nat} (h : JW K sc a l N H len (fun ds => ∀ d ∈ ds, bnd d) G) : JW K sc a l N H len (fun ds => OkA ds 0 ∧ ∀ d ∈ ds, bnd d) G := by
  obtain ⟨xs, ds, h1, h2, h3, h4, h5, h6, b⟩ := h
  exact ⟨xs, ds, h1, h2, h3, h4, h5, h6, fun m hm => absurd hm (Nat.not_lt_zero _), b⟩
def spJobs (K : PySem.W.Frag) : Sp := fun vs H Q _ => ∃ (a sc : Addr) (n mo la : Int), vs = [.ref a, .int mo, .int la] ∧ Sto sc a n H ∧ n ≤ 800000 ∧ 0 ≤ mo ∧ mo ≤ 12 ∧ 0 ≤ la ∧ la ≤ 1000000 ∧
  ∀ (v : V) (js : List PyData) (H' : Hp), Sto sc a (n + 1000) H' → Kept a H H' → Dp K (Off a H') v (.tuple js) → js.all jobD = true → js.length ≤ 12 → Fine js → (∀ a ∈ js.map arrD, bnd a) → Q v H'
theorem scJobs : FnScope ["store", "most", "late", "count", "arrivals", "k", "at", "kind", "number", "earlier", "jobs", "name", "door", "one"] ["store", "most", "late"] (defScope sJobs) := ⟨rfl, rfl, rfl, by decide +kernel, rfl, by decide +kernel, by decide +kernel⟩
theorem ok_jobs (D : Df K mg "_law_jobs" sJobs ["store", "most", "late"]) (B : Blt mg) (PK : Cl P w K mg base CX0 2 "_law_pick" ["store", "count"] spPick) (NM : Cl P w K mg base CX0 3 "_law_names" ["store", "count"] spNames)
    (BF : Cl P w K mg base CX0 1 "_law_before" ["arrival", "finishes"] (spBefore K)) : Cl P w K mg base CX0 4 "_law_jobs" ["store", "most", "late"] (spJobs K) := by
  refine cl0 D scJobs (fun vs H Q E h => ?_) (fun f cdv A outer s H vs Q E hr h => ?_)
  · obtain ⟨a, sc, n, mo, la, rfl, _⟩ := h
    rfl
  · obtain ⟨a, sc, n, mo, la, rfl, S, n1, m0, m12, l0, l1000, k⟩ := h
    refine ⟨_, pss_cons (ps_set (i := 3) scJobs.nd rfl (Or.inl rfl) (pc PK hr (by decide) (pa_cons (pv 0) (pa_cons (pe_op op_add (pv 1) pe_int) pa_nil))))
      (pss_cons (ps_set (i := 4) scJobs.nd rfl (Or.inl rfl) (pe_lst pa_nil))
      (pss_cons (ps_for PassesOwn.never rfl (pi_range1 rfl B.range (pa_cons (pv 3) pa_nil)) (pg_name (i := 5) scJobs.nd rfl (Or.inl rfl))
        (pss_cons (ps_set (i := 6) scJobs.nd rfl (Or.inl rfl) (pe_ix ix_list (pe_lst (pa_cons pe_int (pa_cons (pc PK hr (by decide) (pa_cons (pv 0) (pa_cons pe_int pa_nil))) (pa_cons (pc PK hr (by decide) (pa_cons (pv 0) (pa_cons (pe_op op_add (pv 2) pe_int) pa_nil))) pa_nil)))) (pc PK hr (by decide) (pa_cons (pv 0) (pa_cons pe_int pa_nil))) (fun _ _ => rfl)))
        (pss_one (ps_expr (pe_bm PySem.F.plainAttrs_list PySem.F.slot_list_append PySem.F.type_list_append mt_append (pv 4)
          (pa_cons (pe_ix ix_list (pe_lst (pa_cons (pe_tup (pa_cons pe_str (pa_cons (pv 6) pa_nil))) (pa_cons (pe_tup (pa_cons pe_str (pa_cons (pv 6) pa_nil))) (pa_cons (pe_tup (pa_cons pe_str (pa_cons (pe_op op_add pe_int (pc PK hr (by decide) (pa_cons (pv 0) (pa_cons (pv 3) pa_nil)))) pa_nil))) pa_nil)))) (pc PK hr (by decide) (pa_cons (pv 0) (pa_cons pe_int pa_nil))) (fun _ _ => rfl)) pa_nil))))))
      (pss_cons (ps_for PassesOwn.never rfl (pi_range1 rfl B.range (pa_cons (pv 3) pa_nil)) (pg_name (i := 5) scJobs.nd rfl (Or.inl rfl))
        (pss_cons (ps_asg (pe_ix ix_list (pv 4) (pv 5) (fun _ _ => rfl)) (pg_tup rfl (pgs_cons (pg_name (i := 7) scJobs.nd rfl (.inl rfl)) (pgs_cons (pg_name (i := 8) scJobs.nd rfl (.inr rfl)) pgs_nil))))
        (pss_cons (ps_setLc (i := 9) (own := [("one", 13)]) (g := gName 13) (tt := tB (tCal (spBefore K) (tCons (tVar 13) (tCons (tVar 8) tNil)))) (te := tVar 13) rfl scJobs.nd rfl rfl (sw_true rfl rfl rfl (by decide +kernel)) (pi_list (pv 4)) (blkOk_by (own := [("one", 13)]) (N := ["store", "most", "late", "count", "arrivals", "k", "at", "kind", "number", "earlier", "jobs", "name", "door", "one"]) (sc := defScope sJobs) (by decide +kernel))
          (fun _ _ _ _ _ => pg_name (i := 13) scJobs.nd rfl (Or.inl rfl)) (fun _ _ _ _ _ => pts_one (pt_val (pc BF hr (by decide) (pa_cons (pv 13) (pa_cons (pv 8) pa_nil))))) (fun _ _ _ _ _ => pv 13))
        (pss_one (ps_if (PW.pt (pw_and (pt_cmpR op_eq (pv 7) pe_str (nomark _)) (pw_and1 (pt_cmpR op_lt (pe_callB call_len_seq (by rfl) B.len PySem.boot_len (pa_cons (pv 9) pa_nil)) (pv 8) (nomark _)))))
          (pss_one (ps_asg (pe_tup (pa_cons pe_str (pa_cons (pc PK hr (by decide) (pa_cons (pv 0) (pa_cons (pe_op op_add (pv 2) pe_int) pa_nil))) pa_nil))) (pg_sub (pv 4) (pv 5) set_list))) pss_nil)))))
      (pss_cons (ps_set (i := 10) scJobs.nd rfl (Or.inl rfl) (pe_lst pa_nil))
      (pss_cons (ps_for PassesOwn.never rfl (pi_list (pc NM hr (by decide) (pa_cons (pv 0) (pa_cons (pv 3) pa_nil)))) (pg_name (i := 11) scJobs.nd rfl (Or.inl rfl))
        (pss_cons (ps_set (i := 12) scJobs.nd rfl (Or.inl rfl) (pe_ix ix_list (pe_lst (pa_cons pe_int (pa_cons pe_int (pa_cons (pc PK hr (by decide) (pa_cons (pv 0) (pa_cons pe_int pa_nil))) pa_nil)))) (pc PK hr (by decide) (pa_cons (pv 0) (pa_cons pe_int pa_nil))) (fun _ _ => rfl)))
        (pss_one (ps_expr (pe_bm PySem.F.plainAttrs_list PySem.F.slot_list_append PySem.F.type_list_append mt_append (pv 10)
          (pa_cons (pe_tup (pa_cons (pv 11) (pa_cons (pe_ix ix_list (pv 4) (pe_callB call_len_seq (by rfl) B.len PySem.boot_len (pa_cons (pv 10) pa_nil)) (fun _ _ => rfl)) (pa_cons (pv 12) pa_nil)))) pa_nil))))))
      (pss_one (ps_ret (pe_callTy call_tuple_of (by rfl) B.tuple (by decide +kernel) (pa_cons (pv 10) pa_nil))))))))), ?_⟩
    -- count
    refine ⟨_, rfl, _, rfl, _, _, rfl, rfl, a, sc, mo + 1, n, rfl, by omega, by omega, S, by omega, fun c H1 c0 c1 S1 K1 => ?_⟩
    refine ⟨(by show 0 ≤ sizeLine; decide), fun l nl => ?_⟩
    have la_ : l ≠ a := S1.ne nl
    have lsc : l ≠ sc := S1.ne2 nl
    have S2 := S1.same (same_new (o := .lst []) nl)
    have far : ∀ {G : Hp} {t : Addr} {k : Str} {i : Int}, G t = some (.tup [.str k, .int i]) → t ≠ l → t ≠ a → Dp K (Off l (Off a G)) (.ref t) (.tuple [.str k, .int i]) := fun h1 h2 h3 =>
      .tup (SqT.of (by rw [off_ne h2, off_ne h3, h1])) (.cons (.str _) (.cons (.int _) .nil))
    -- the first loop
    refine ⟨_, rfl, c, rfl, by omega, by omega, ?_⟩
    refine for_range (lo := 0) (n := c.toNat) (fun i σ G => ∃ (u5 u6 : Option V), σ = [some (.ref a), some (.int mo), some (.int la), some (.int c), some (.ref l), u5, u6, none, none, none, none, none, none, none] ∧ JW K sc a l (n + 1 + 5 * i) H1 i (fun ds => ∀ d ∈ ds, bnd d) G)
      ⟨none, none, rfl, [], [], S2.more (by omega), off_mono (off_mono (same_new nl)), upd_same, .nil, rfl, (fun d hd => absurd hd (by simp)), (fun d hd => absurd hd (by simp))⟩ ?_ ?_
    · rintro i σ G hi ⟨u5, u6, rfl, xs, ds, SG, KG, lG, dG, ld, okd, bd⟩
      have xl := dps_len dG
      refine ⟨_, rfl, a, sc, 4, _, rfl, by decide, by decide, SG, by omega, fun x G1 x0 x4 SG1 KG1 => ?_⟩
      refine ⟨_, rfl, _, rfl, _, _, rfl, rfl, a, sc, la + 1, _, rfl, by omega, by omega, SG1, by omega, fun y G2 y0 y4 SG2 KG2 => ?_⟩
      refine ⟨(by show 3 ≤ sizeLine; decide), fun q nq => ?_⟩
      have sq := same_new (o := .lst [.int 0, .int x, .int y]) nq
      have qa := SG2.ne nq
      refine ⟨_, rfl, a, sc, 3, _, rfl, by decide, by decide, SG2.same sq, by omega, fun z G3 z0 z3 SG3 KG3 => ?_⟩
      obtain ⟨av, hav, vav⟩ := atI_three (x0 := .int 0) (x1 := .int x) (x2 := .int y) z0 z3
      refine ⟨q, _, _, av, rfl, rfl, SqL.of (KG3.at upd_same qa), hav, ?_⟩
      obtain ⟨ai, ai0, ai1, rfl⟩ : ∃ ai : Int, 0 ≤ ai ∧ ai ≤ 1000000 ∧ av = .int ai := by
        rcases vav with rfl | rfl | rfl
        · exact ⟨_, by decide, by decide, rfl⟩
        · exact ⟨_, x0, by omega, rfl⟩
        · exact ⟨_, y0, by omega, rfl⟩
      have KA : Kept a G G3 := ((KG1.trans KG2).trans (kept_same sq)).trans KG3
      have lG3 := KA.at lG la_
      -- arrivals.append
      refine ⟨_, rfl, .inl ⟨rfl, _, SqL.of lG3⟩, ?_⟩
      refine ⟨_, rfl, (by show 2 ≤ sizeLine; decide), fun t1 m1 => ?_⟩
      have g1 := same_new (o := .tup [.str ("at" : Str), .int ai]) m1
      refine ⟨_, rfl, (by show 2 ≤ sizeLine; decide), fun t2 m2 => ?_⟩
      have g2 := same_new (o := .tup [.str ("at" : Str), .int ai]) m2
      have SG4 := (SG3.same g1).same g2
      have t1a := SG3.ne m1
      have t2a := (SG3.same g1).ne m2
      refine ⟨_, rfl, _, rfl, a, sc, c, _, rfl, by omega, by omega, SG4, by omega, fun r G4 r0 rc SG5 KG4 => ?_⟩
      refine ⟨_, _, rfl, rfl, (by show 2 ≤ sizeLine; decide), fun t3 m3 => ?_⟩
      have g3 := same_new (o := .tup [.str ("after" : Str), .int (1 + r)]) m3
      have t3a := SG5.ne m3
      refine ⟨(by show 3 ≤ sizeLine; decide), fun q2 nq2 => ?_⟩
      have g4 := same_new (o := .lst [.ref t1, .ref t2, .ref t3]) nq2
      have q2a := (SG5.same g3).ne nq2
      refine ⟨_, rfl, a, sc, 3, _, rfl, by decide, by decide, (SG5.same g3).same g4, by omega, fun e G5 e0 e3 SG6 KG5 => ?_⟩
      obtain ⟨ev, hev, vev⟩ := atI_three (x0 := .ref t1) (x1 := .ref t2) (x2 := .ref t3) e0 e3
      refine ⟨q2, _, _, ev, rfl, rfl, SqL.of (KG5.at upd_same q2a), hev, ?_⟩
      have K45 : Kept a G4 G5 := (kept_same (g3.trans g4)).trans KG5
      have K35 : Kept a G3 G5 := ((kept_same (g1.trans g2)).trans KG4).trans K45
      have KB : Kept a G G5 := KA.trans K35
      have lG5 := KB.at lG la_
      have b1 : G5 t1 = some (.tup [.str ("at" : Str), .int ai]) := K45.at (KG4.at (g2.at upd_same) t1a) t1a
      have b2 : G5 t2 = some (.tup [.str ("at" : Str), .int ai]) := K45.at (KG4.at upd_same t2a) t2a
      have b3 : G5 t3 = some (.tup [.str ("after" : Str), .int (1 + r)]) := KG5.at (g4.at upd_same) t3a
      have tl1 : t1 ≠ l := fun e => by rw [e, lG3] at m1; cases m1
      have tl2 : t2 ≠ l := fun e => by rw [e, g1.at lG3] at m2; cases m2
      have tl3 : t3 ≠ l := fun e => by rw [e, KG4.at ((g1.trans g2).at lG3) la_] at m3; cases m3
      obtain ⟨ed, ded, oked, bed⟩ : ∃ ed, Dp K (Off l (Off a G5)) ev ed ∧ arrivalD ed = true ∧ bnd ed := by
        rcases vev with rfl | rfl | rfl
        · exact ⟨_, far b1 tl1 t1a, arr_at ai0, bnd_of ai1⟩
        · exact ⟨_, far b2 tl2 t2a, arr_at ai0, bnd_of ai1⟩
        · exact ⟨_, far b3 tl3 t3a, arr_after (by omega), bnd_of (by omega)⟩
      have offs : Off l (Off a (upd G5 l (.lst (xs ++ [ev])))) = Off l (Off a G5) := by rw [off_other la_, off_upd]
      refine ⟨l, _, _, rfl, rfl, lG5, by rw [xl, ld]; exact Nat.lt_of_lt_of_le (show i < 13 by omega) (by decide), _, _, rfl, xs ++ [ev], ds ++ [ed], (SG6.other la_ lsc).more (by omega), ?_, upd_same, ?_, by rw [List.length_append, ld]; rfl, ?_, ?_⟩
      · rw [offs]
        exact KG.trans (off_mono KB)
      · rw [offs]
        exact dps_app (dps_same (off_mono KB) dG) (.cons ded .nil)
      · intro d hd
        rcases List.mem_append.mp hd with hd | hd
        · exact okd d hd
        · rw [List.mem_singleton.mp hd]
          exact oked
      · intro d hd
        rcases List.mem_append.mp hd with hd | hd
        · exact bd d hd
        · rw [List.mem_singleton.mp hd]
          exact bed
    rintro σ G ⟨u5, u6, rfl, JG⟩
    -- the second loop
    refine ⟨_, rfl, c, rfl, by omega, by omega, ?_⟩
    refine for_range (lo := 0) (n := c.toNat) (fun i σ G => ∃ (u5 u6 u7 u8 u9 : Option V), σ = [some (.ref a), some (.int mo), some (.int la), some (.int c), some (.ref l), u5, u6, u7, u8, u9, none, none, none, none] ∧ JW K sc a l (n + 1 + 5 * c.toNat + i) H1 c.toNat (fun ds => OkA ds i ∧ ∀ d ∈ ds, bnd d) G)
      ⟨_, _, _, _, _, rfl, by rw [show n + 1 + 5 * (c.toNat : Int) + ((0 : Nat) : Int) = n + 1 + 5 * c.toNat by omega]; exact JG.ok0⟩ ?_ ?_
    · rintro i σ G hi ⟨u5, u6, u7, u8, u9, rfl, xs, ds, SG, KG, lG, dG, ld, okd, okA, bd⟩
      have xl := dps_len dG
      have hxi : xs[i]? = some xs[i] := List.getElem?_eq_getElem (by omega)
      obtain ⟨d, hd, dd⟩ := dps_getV dG hxi
      generalize xs[i] = v at hxi dd
      obtain ⟨kd, t, rfl, hkd⟩ := arr_parts (okd d (List.mem_of_getElem? hd))
      obtain ⟨pa, kv, tv, rfl, qa, dk, dt⟩ := dp_two dd
      have ek := dp_str dk
      subst ek
      have et := dp_int dt
      subst et
      have sub : Same (Off l (Off a G)) G := (off_sub l (Off a G)).trans (off_sub a G)
      have hat : atI xs ((0 : Int) + (i : Nat)) = some (.ref pa) := by
        rw [Int.zero_add]
        exact atI_nat hxi
      refine ⟨_, rfl, _, rfl, l, xs, _, _, rfl, rfl, SqL.of lG, hat, pa, _, rfl, same_seqT sub qa, rfl, _, _, rfl, _, _, rfl, rfl, ?_⟩
      -- earlier
      refine ⟨_, rfl, l, rfl, ⟨_, SqL.of lG⟩, fun D2 nD2 => ?_⟩
      refine lc_it (walk_list (K := K) (a := l) (xs := xs)) (fun m Hd => ∃ ac2, Same G Hd ∧ Hd D2 = some (.lst ac2) ∧ ac2.length = (ds.take m).countP (befA t))
        ⟨[], same_new nD2, upd_same, rfl⟩ (fun m Hd _ ⟨ac2, s9, _⟩ => SqL.of (s9.at lG)) ?_ ?_
      · rintro m y2 Hd0 Hd hm ⟨ac2, s9, hD2, lc2⟩ ⟨rfl, hy2⟩
        obtain ⟨d2, hd2, dp2⟩ := dps_getV dG hy2
        obtain ⟨k2, t2, rfl, _⟩ := arr_parts (okd d2 (List.mem_of_getElem? hd2))
        refine ⟨rfl, _, rfl, _, rfl, y2, k2, t2, t, rfl, dp_same (sub.trans s9) dp2, ⟨_, rfl, ?_⟩⟩
        have e2 : (ds.take (m + 1)).countP (befA t) = (ds.take m).countP (befA t) + (if befA t (.tuple [.str k2, .int t2]) = true then 1 else 0) := by
          rw [List.take_add_one, hd2]
          show (ds.take m ++ [PyData.tuple [.str k2, .int t2]]).countP (befA t) = _
          rw [List.countP_append, List.countP_singleton]
        have small : ac2.length ≤ 13 := by
          have z : (ds.take m).countP (befA t) ≤ (ds.take m).length := List.countP_le_length
          rw [List.length_take] at z
          omega
        cases hb : (decide (k2 = "at") || decide (t2 < t)) with
        | true =>
          refine iteT ⟨_, rfl, ac2, hD2, Nat.lt_of_le_of_lt small (by decide), ac2 ++ [_], same_put s9 nD2, upd_same, ?_⟩
          rw [e2, if_pos (show befA t (.tuple [.str k2, .int t2]) = true from hb), List.length_append, List.length_singleton, lc2]
        | false =>
          refine iteF ⟨ac2, s9, hD2, ?_⟩
          rw [e2, if_neg (by rw [show befA t (.tuple [.str k2, .int t2]) = false from hb]; exact Bool.false_ne_true), lc2]
          rfl
      rintro Hd ⟨ac2, s9, hD2, lc2⟩
      rw [List.take_of_length_le (by omega)] at lc2
      have next : (kd = "at" ∨ t ≤ (ds.countP (befA t) : Nat)) → JW K sc a l (n + 1 + 5 * c.toNat + ((i + 1 : Nat) : Int)) H1 c.toNat (fun ds => OkA ds (i + 1) ∧ ∀ d ∈ ds, bnd d) Hd := fun hok =>
        ⟨xs, ds, (SG.same s9).more (by omega), KG.trans (off_mono (off_mono s9)), s9.at lG, dps_same (off_mono (off_mono s9)) dG, ld, okd, okA.next hd hok, bd⟩
      refine ⟨_, rfl, rfl, _, rfl, ?_⟩
      refine ite2 (fun _ => ?_) (fun hz => iteF ⟨_, _, _, _, _, rfl, next (.inl (hkd.resolve_right fun e => hz (by rw [e]; rfl)))⟩)
      refine ⟨_, rfl, D2, ac2, rfl, .inl (SqL.of hD2), _, rfl, _, _, rfl, rfl, _, rfl, ?_⟩
      refine ite2 (fun _ => ?_) (fun hz => ⟨_, _, _, _, _, rfl, next (.inr (by rw [← lc2]; exact Int.not_lt.mp fun e => hz (decide_eq_true e)))⟩)
      refine ⟨_, rfl, _, rfl, _, _, rfl, rfl, a, sc, la + 1, _, rfl, by omega, by omega, SG.same s9, by omega, fun r G2 r0 r1 SG2 KG2 => ?_⟩
      refine ⟨(by show 2 ≤ sizeLine; decide), fun q nq => ?_⟩
      have lG2 := KG2.at (s9.at lG) la_
      have sq := same_new (o := .tup [.str ("at" : Str), .int r]) nq
      have qa := SG2.ne nq
      have ql : q ≠ l := fun e => by rw [e, lG2] at nq; cases nq
      have KA : Kept a G (upd G2 q (.tup [.str ("at" : Str), .int r])) := ((kept_same s9).trans KG2).trans (kept_same sq)
      have offs : Off l (Off a (upd (upd G2 q (.tup [.str ("at" : Str), .int r])) l (.lst (xs.set i (.ref q))))) = Off l (Off a (upd G2 q (.tup [.str ("at" : Str), .int r]))) := by rw [off_other la_, off_upd]
      refine ⟨_, rfl, _, rfl, l, xs, _, i, rfl, rfl, sq.at lG2, ixN_nat (by omega), _, _, _, _, _, rfl, xs.set i (.ref q), ds.set i (.tuple [.str "at", .int r]), ((SG2.same sq).other la_ lsc).more (by omega), ?_, upd_same, ?_, by rw [List.length_set, ld], ?_, okA.put (by omega), ?_⟩
      · rw [offs]
        exact KG.trans (off_mono KA)
      · rw [offs]
        exact dps_set (far upd_same ql qa) i (dps_same (off_mono KA) dG)
      · intro d hd
        rcases List.mem_or_eq_of_mem_set hd with hd | rfl
        · exact okd d hd
        · exact arr_at r0
      · intro d hd
        rcases List.mem_or_eq_of_mem_set hd with hd | rfl
        · exact bd d hd
        · exact bnd_of (by omega)
    rintro σ Gp ⟨u5, u6, u7, u8, u9, rfl, xs, ds, SG, KG, lG, dG, ld, okd, okA, bd⟩
    have xl := dps_len dG
    -- jobs, names
    refine ⟨(by show 0 ≤ sizeLine; decide), fun lj nlj => ?_⟩
    have sj := same_new (o := .lst []) nlj
    have lja := SG.ne nlj
    have ljsc := SG.ne2 nlj
    refine ⟨_, rfl, _, rfl, a, sc, _, c, rfl, SG.same sj, by omega, c0, by omega, fun ln ws G5 nln lna S5 K5 hln lws okws ndw => ?_⟩
    have lnj : ln ≠ lj := fun e => by rw [e, upd_same] at nln; cases nln
    have lj5 := K5.at (o := .lst []) upd_same lja
    have KP5 : Kept a Gp G5 := (kept_same sj).trans K5
    have llj : l ≠ lj := fun e => by rw [← e, lG] at nlj; cases nlj
    have l5 := KP5.at lG la_
    have dX : DpAll K (Off lj (Off a Gp)) xs ds := by
      rw [off_none (off_free nlj)]
      exact dps_same (off_sub l _) dG
    have F5 : Same (Off lj (Off a Gp)) (Off lj (Off a G5)) := off_mono KP5
    refine ⟨ln, rfl, ⟨_, SqL.of hln⟩, for_it (walk_list (K := K) (a := ln) (xs := ws.map V.str)) (fun i σ Gi => ∃ (u5 u6 u7 u8 u9 u11 u12 : Option V) (ys : List V) (es : List PyData), σ = [some (.ref a), some (.int mo), some (.int la), some (.int c), some (.ref l), u5, u6, u7, u8, u9, some (.ref lj), u11, u12, none] ∧
        Sto sc a (n + 1 + 5 * c.toNat + c.toNat + 800 + 2 * i) Gi ∧ Same (Off lj (Off a Gp)) (Off lj (Off a Gi)) ∧ Gi l = some (.lst xs) ∧ Gi ln = some (.lst (ws.map V.str)) ∧ Gi lj = some (.lst ys) ∧ DpAll K (Off lj (Off a Gi)) ys es ∧ es.length = i ∧ (∀ e ∈ es, jobD e = true) ∧ es.map nameOf = ws.take i ∧ es.map arrD = ds.take i)
      ⟨_, _, _, _, _, _, _, [], [], rfl, S5.more (by omega), F5, l5, hln, lj5, .nil, rfl, (fun e he => absurd he (by simp)), rfl, rfl⟩ (fun i σ Gi _ ⟨_, _, _, _, _, _, _, _, _, _, _, _, _, h, _⟩ => SqL.of h) ?_ ?_⟩
    · rintro i v1 σ Ga Gb hi ⟨u5, u6, u7, u8, u9, u11, u12, ys, es, rfl, Si, Fi, li, hi_n, hlj, dys, les, okes, enm, ear⟩ ⟨rfl, hy⟩
      rw [List.length_map] at hi
      rw [List.getElem?_map] at hy
      obtain ⟨nm, hnm, rfl⟩ := Option.map_eq_some_iff.mp hy
      have yl := dps_len dys
      refine ⟨_, rfl, a, sc, 10, _, rfl, by decide, by decide, Si, by omega, fun x G1 x0 x4 SG1 KG1 => ?_⟩
      refine ⟨(by show 3 ≤ sizeLine; decide), fun q nq => ?_⟩
      have sq := same_new (o := .lst [.int 0, .int 0, .int x]) nq
      have qa := SG1.ne nq
      refine ⟨_, rfl, a, sc, 3, _, rfl, by decide, by decide, SG1.same sq, by omega, fun z G3 z0 z3 SG3 KG3 => ?_⟩
      obtain ⟨av, hav, vav⟩ := atI_three (x0 := .int 0) (x1 := .int 0) (x2 := .int x) z0 z3
      refine ⟨q, _, _, av, rfl, rfl, SqL.of (KG3.at upd_same qa), hav, ?_⟩
      obtain ⟨ai, ai0, ai9, rfl⟩ : ∃ ai : Int, 0 ≤ ai ∧ ai ≤ 9 ∧ av = .int ai := by
        rcases vav with rfl | rfl | rfl
        · exact ⟨_, by decide, by decide, rfl⟩
        · exact ⟨_, by decide, by decide, rfl⟩
        · exact ⟨_, x0, by omega, rfl⟩
      have KA : Kept a Gb G3 := (KG1.trans (kept_same sq)).trans KG3
      have lG3 := KA.at li la_
      have lnG3 := KA.at hi_n lna
      have ljG3 := KA.at hlj lja
      have hxi : xs[i]? = some xs[i] := List.getElem?_eq_getElem (by omega)
      obtain ⟨d, hd, dd⟩ := dps_getV dX hxi
      generalize xs[i] = v at hxi dd
      have hat : atI xs ((ys.length : Nat) : Int) = some v := by
        rw [yl, les]
        exact atI_nat hxi
      refine ⟨_, rfl, .inl ⟨rfl, _, SqL.of ljG3⟩, ?_⟩
      refine ⟨_, rfl, _, rfl, _, rfl, lj, ys, rfl, .inl (SqL.of ljG3), l, xs, _, v, rfl, rfl, SqL.of lG3, hat, _, rfl, (by show 3 ≤ sizeLine; decide), fun t nt => ?_⟩
      have st := same_new (o := .tup [.str nm, v, .int ai]) nt
      have ta := SG3.ne nt
      have tl : t ≠ lj := fun e => by rw [e, ljG3] at nt; cases nt
      have KB : Kept a Gb (upd G3 t (.tup [.str nm, v, .int ai])) := KA.trans (kept_same st)
      have offs : Off lj (Off a (upd (upd G3 t (.tup [.str nm, v, .int ai])) lj (.lst (ys ++ [.ref t])))) = Off lj (Off a (upd G3 t (.tup [.str nm, v, .int ai]))) := by rw [off_other lja, off_upd]
      have FB := Fi.trans (off_mono (a := lj) KB)
      refine ⟨lj, _, _, rfl, rfl, st.at ljG3, by rw [yl, les]; exact Nat.lt_of_lt_of_le (show i < 13 by omega) (by decide), _, _, _, _, _, _, _, ys ++ [.ref t], es ++ [.tuple [.str nm, d, .int ai]], rfl, ((SG3.same st).other lja ljsc).more (by omega), ?_, ?_, ?_, upd_same, ?_, by rw [List.length_append, les]; rfl, ?_, ?_, ?_⟩
      · rw [offs]
        exact FB
      · rw [upd_ne llj]
        exact st.at lG3
      · rw [upd_ne lnj]
        exact st.at lnG3
      · rw [offs]
        refine dps_app (dps_same (off_mono KB) dys) (.cons (.tup (a := t) (SqT.of ?_) (.cons (.str nm) (.cons (dp_same FB dd) (.cons (.int ai) .nil)))) .nil)
        rw [off_ne tl, off_ne ta, upd_same]
      · intro e he
        rcases List.mem_append.mp he with he | he
        · exact okes e he
        · rw [List.mem_singleton.mp he]
          show (nameD (.str nm) && (arrivalD d && (integerD 0 (.int ai) && le9 (.int ai)))) = true
          rw [okws nm (List.mem_of_getElem? hnm), okd d (List.mem_of_getElem? hd), show integerD 0 (.int ai) = true from decide_eq_true ai0, show le9 (.int ai) = true from decide_eq_true ai9]
          rfl
      · rw [List.map_append, enm, List.take_add_one, hnm]
        rfl
      · rw [List.map_append, ear, List.take_add_one, hd]
        rfl
    · rintro σ Gi ⟨u5, u6, u7, u8, u9, u11, u12, ys, es, rfl, Si, Fi, li, hi_n, hlj, dys, les, okes, enm, ear⟩
      have yl := dps_len dys
      have wl : (ws.map V.str).length = ws.length := List.length_map ..
      rw [List.length_map] at les
      refine ⟨_, rfl, lj, ys, rfl, .inl ⟨SqL.of hlj, fun tp ntp => ?_⟩⟩
      have stp := same_new (o := .tup ys) ntp
      have tpa := Si.ne ntp
      refine k (.ref tp) es _ ((Si.same stp).more (by omega)) (((K1.trans (kept_of_off nl KG)).trans (kept_of_off nlj Fi)).trans (kept_same stp)) (.tup (a := tp) (SqT.of ?_) (dps_same ((off_sub lj _).trans (kept_same stp)) dys)) (List.all_eq_true.mpr okes) (by omega) ⟨?_, ?_⟩ ?_
      · rw [off_ne tpa, upd_same]
      · rw [enm, wl, List.take_of_length_le (Nat.le_refl _)]
        exact ndw
      · rw [ear, wl, List.take_of_length_le (by omega)]
        intro k t hm
        obtain ⟨j, hj, e⟩ := List.getElem_of_mem hm
        exact okA j (by omega) k t (by rw [List.getElem?_eq_getElem hj, e])
      · rw [ear, wl, List.take_of_length_le (by omega)]
        exact bd
end
end Vk
namespace Vk
open PySem PySem.Spec PyProof.Rows L2
/-- the truth of the twelve questions, for the class with number i -/
def bits (i : Nat) : List V := (List.range 12).map fun j => V.bl (decide (j = i))
def words7 : List Str := ["jobs", "rule", "lengths", "log", "marks", "named", "order"]
theorem bits_len (i : Nat) : (bits i).length = 12 := by simp [bits]
theorem bits_get {i m : Nat} (h : m < 12) : (bits i)[m]? = some (V.bl (decide (m = i))) := by
  unfold bits
  rw [List.getElem?_map, List.getElem?_range h]
  rfl
theorem bits_flat (i : Nat) : (bits i).all flatV = true := by
  unfold bits
  rw [List.all_eq_true]
  intro x hx
  obtain ⟨j, _, rfl⟩ := List.mem_map.mp hx
  rfl
theorem bits_cnt : ∀ i : Fin 12, (bits i.1).countP (fun z => eqV z (.bl true)) = 1 := by decide +kernel
structure Kn (K : PySem.W.Frag) (mg : Str → Option Value) (C : Addr) (i : Nat) : Prop where
  ex : ExcC K C
  xf : XfC K C
  noP : PySem.W.findIn K (.ref C) "place" = some none
  ve : mg "ValueError" = none
  kv : PySem.W.kitOne K (.ref C) (.type "ValueError") = some true
  se : ∃ S, mg "SlotError" = some (.ref S) ∧ PySem.W.kitOne K (.ref C) (.ref S) = some true ∧ PySem.W.exmOne K (.ref C) (.ref S) = some true
  c0 : ∃ D, mg "NoJobs" = some (.ref D) ∧ PySem.W.kitOne K (.ref C) (.ref D) = some (decide (0 = i))
  c1 : ∃ D, mg "NoRule" = some (.ref D) ∧ PySem.W.kitOne K (.ref C) (.ref D) = some (decide (1 = i))
  c2 : ∃ D, mg "NoLengths" = some (.ref D) ∧ PySem.W.kitOne K (.ref C) (.ref D) = some (decide (2 = i))
  c3 : ∃ D, mg "NoLog" = some (.ref D) ∧ PySem.W.kitOne K (.ref C) (.ref D) = some (decide (3 = i))
  c4 : ∃ D, mg "NoMarks" = some (.ref D) ∧ PySem.W.kitOne K (.ref C) (.ref D) = some (decide (4 = i))
  c5 : ∃ D, mg "NoNamed" = some (.ref D) ∧ PySem.W.kitOne K (.ref C) (.ref D) = some (decide (5 = i))
  c6 : ∃ D, mg "NoOrder" = some (.ref D) ∧ PySem.W.kitOne K (.ref C) (.ref D) = some (decide (6 = i))
  c7 : ∃ D, mg "NoText" = some (.ref D) ∧ PySem.W.kitOne K (.ref C) (.ref D) = some (decide (7 = i))
  c8 : ∃ D, mg "NoNumber" = some (.ref D) ∧ PySem.W.kitOne K (.ref C) (.ref D) = some (decide (8 = i))
  c9 : ∃ D, mg "NoName" = some (.ref D) ∧ PySem.W.kitOne K (.ref C) (.ref D) = some (decide (9 = i))
  c10 : ∃ D, mg "NoUndo" = some (.ref D) ∧ PySem.W.kitOne K (.ref C) (.ref D) = some (decide (10 = i))
  c11 : ∃ D, mg "NoLine" = some (.ref D) ∧ PySem.W.kitOne K (.ref C) (.ref D) = some (decide (11 = i))
section
variable {P : Program} {w : World} {K : PySem.W.Frag} {mg : Str → Option Value} {base : Heap}
def spKind (C : Addr) (i : Nat) : Sp := fun vs H Q _ => ∃ (a dd : Addr) (v : V), vs = [.ref a] ∧ H a = some (Xco a (.ref C) (some dd)) ∧ H dd = some (.xd [(("place" : Str), v)]) ∧
  ∀ (t : Addr) (H' : Hp), Same H H' → H' t = some (.tup [.str (words7.getD i ""), v]) → Q (.ref t) H'
theorem scKind : FnScope ["caught", "kinds", "at"] ["caught"] (defScope sKind) := ⟨rfl, rfl, rfl, by decide +kernel, rfl, by decide +kernel, by decide +kernel⟩
theorem ok_kind {C : Addr} {i : Nat} (hi : i < 7) (D : Df K mg "_law_kind" sKind ["caught"]) (B : Blt mg) (N : Kn K mg C i) : Cl P w K mg base CX0 1 "_law_kind" ["caught"] (spKind C i) := by
  refine cl0 D scKind (fun vs H Q E h => ?_) (fun f cdv A outer s H vs Q E hr h => ?_)
  · obtain ⟨a, dd, v, rfl, _⟩ := h
    rfl
  · obtain ⟨a, dd, v, rfl, ha, hdd, k⟩ := h
    obtain ⟨S, mS, kS, _⟩ := N.se
    obtain ⟨D0, m0, k0⟩ := N.c0
    obtain ⟨D1, m1, k1⟩ := N.c1
    obtain ⟨D2, m2, k2⟩ := N.c2
    obtain ⟨D3, m3, k3⟩ := N.c3
    obtain ⟨D4, m4, k4⟩ := N.c4
    obtain ⟨D5, m5, k5⟩ := N.c5
    obtain ⟨D6, m6, k6⟩ := N.c6
    obtain ⟨D7, m7, k7⟩ := N.c7
    obtain ⟨D8, m8, k8⟩ := N.c8
    obtain ⟨D9, m9, k9⟩ := N.c9
    obtain ⟨D10, m10, k10⟩ := N.c10
    obtain ⟨D11, m11, k11⟩ := N.c11
    refine ⟨_, pss_cons (ps_set (i := 1) scKind.nd rfl (Or.inl rfl) (pe_lst (pa_cons (pe_callB call_isX (by rfl) B.isi (by decide +kernel) (pa_cons (pv 0) (pa_cons (pe_glob rfl m0 (show RelV (.ref _) _ from rfl)) pa_nil))) (pa_cons (pe_callB call_isX (by rfl) B.isi (by decide +kernel) (pa_cons (pv 0) (pa_cons (pe_glob rfl m1 (show RelV (.ref _) _ from rfl)) pa_nil))) (pa_cons (pe_callB call_isX (by rfl) B.isi (by decide +kernel) (pa_cons (pv 0) (pa_cons (pe_glob rfl m2 (show RelV (.ref _) _ from rfl)) pa_nil))) pa_nil)))))
      (pss_cons (ps_set (i := 1) scKind.nd rfl (Or.inl rfl) (pe_op op_cat (pv 1) (pe_lst (pa_cons (pe_callB call_isX (by rfl) B.isi (by decide +kernel) (pa_cons (pv 0) (pa_cons (pe_glob rfl m3 (show RelV (.ref _) _ from rfl)) pa_nil))) (pa_cons (pe_callB call_isX (by rfl) B.isi (by decide +kernel) (pa_cons (pv 0) (pa_cons (pe_glob rfl m4 (show RelV (.ref _) _ from rfl)) pa_nil))) (pa_cons (pe_callB call_isX (by rfl) B.isi (by decide +kernel) (pa_cons (pv 0) (pa_cons (pe_glob rfl m5 (show RelV (.ref _) _ from rfl)) pa_nil))) pa_nil))))))
      (pss_cons (ps_set (i := 1) scKind.nd rfl (Or.inl rfl) (pe_op op_cat (pv 1) (pe_lst (pa_cons (pe_callB call_isX (by rfl) B.isi (by decide +kernel) (pa_cons (pv 0) (pa_cons (pe_glob rfl m6 (show RelV (.ref _) _ from rfl)) pa_nil))) (pa_cons (pe_callB call_isX (by rfl) B.isi (by decide +kernel) (pa_cons (pv 0) (pa_cons (pe_glob rfl m7 (show RelV (.ref _) _ from rfl)) pa_nil))) (pa_cons (pe_callB call_isX (by rfl) B.isi (by decide +kernel) (pa_cons (pv 0) (pa_cons (pe_glob rfl m8 (show RelV (.ref _) _ from rfl)) pa_nil))) pa_nil))))))
      (pss_cons (ps_set (i := 1) scKind.nd rfl (Or.inl rfl) (pe_op op_cat (pv 1) (pe_lst (pa_cons (pe_callB call_isX (by rfl) B.isi (by decide +kernel) (pa_cons (pv 0) (pa_cons (pe_glob rfl m9 (show RelV (.ref _) _ from rfl)) pa_nil))) (pa_cons (pe_callB call_isX (by rfl) B.isi (by decide +kernel) (pa_cons (pv 0) (pa_cons (pe_glob rfl m10 (show RelV (.ref _) _ from rfl)) pa_nil))) (pa_cons (pe_callB call_isX (by rfl) B.isi (by decide +kernel) (pa_cons (pv 0) (pa_cons (pe_glob rfl m11 (show RelV (.ref _) _ from rfl)) pa_nil))) pa_nil))))))
      (pss_cons (ps_if (PW.pt (pw_or (pt_not (pt_val (pe_callB call_isX (by rfl) B.isi (by decide +kernel) (pa_cons (pv 0) (pa_cons (pe_glob rfl mS (show RelV (.ref _) _ from rfl)) pa_nil))))) (pw_or (pt_not (pt_val (pe_callB call_isX (by rfl) B.isi (by decide +kernel) (pa_cons (pv 0) (pa_cons (pe_bltn (v := .ty "ValueError") (u := .type "ValueError") (by rfl) N.ve (by decide +kernel) rfl) pa_nil)))))
        (pw_or1 (pt_cmpR op_ne (pe_bm PySem.F.plainAttrs_list PySem.F.slot_list_count PySem.F.type_list_count mt_countV (pv 1) (pa_cons pe_bl pa_nil)) pe_int (nomark _)))))) (pss_one (ps_ret (pe_tup (pa_cons pe_str (pa_cons pe_int pa_nil))))) pss_nil)
      (pss_cons (ps_set (i := 2) scKind.nd rfl (Or.inl rfl) (pe_bm PySem.F.plainAttrs_list PySem.F.slot_list_index PySem.F.type_list_index mt_index (pv 1) (pa_cons pe_bl pa_nil)))
      (pss_cons (ps_if (pt_cmpR op_lt (pv 2) pe_int (nomark _)) (pss_one (ps_ret (pe_tup (pa_cons (pe_ix ix_list (pe_lst (pa_cons pe_str (pa_cons pe_str (pa_cons pe_str (pa_cons pe_str (pa_cons pe_str (pa_cons pe_str (pa_cons pe_str pa_nil)))))))) (pv 2) (fun _ _ => rfl)) (pa_cons (pe_xp (pv 0)) pa_nil))))) pss_nil)
      (pss_cons ps_never (pss_cons ps_never (pss_cons ps_never (pss_one ps_never)))))))))), ?_⟩
    refine ⟨_, rfl, a, C, some dd, _, _, _, rfl, (Same.refl H).at ha, (fun d2 e2 => by cases e2; exact ⟨_, (Same.refl H).at hdd⟩), N.ex, .own _, k0,
      _, rfl, a, C, some dd, _, _, _, rfl, (Same.refl H).at ha, (fun d2 e2 => by cases e2; exact ⟨_, (Same.refl H).at hdd⟩), N.ex, .own _, k1,
      _, rfl, a, C, some dd, _, _, _, rfl, (Same.refl H).at ha, (fun d2 e2 => by cases e2; exact ⟨_, (Same.refl H).at hdd⟩), N.ex, .own _, k2, (by show 3 ≤ sizeLine; decide), fun p1 n1 => ?_⟩
    have s1 := same_new (o := .lst [.bl (decide (0 = i)), .bl (decide (1 = i)), .bl (decide (2 = i))]) n1
    refine ⟨_, rfl, _, rfl, a, C, some dd, _, _, _, rfl, s1.at ha, (fun d2 e2 => by cases e2; exact ⟨_, s1.at hdd⟩), N.ex, .own _, k3,
      _, rfl, a, C, some dd, _, _, _, rfl, s1.at ha, (fun d2 e2 => by cases e2; exact ⟨_, s1.at hdd⟩), N.ex, .own _, k4,
      _, rfl, a, C, some dd, _, _, _, rfl, s1.at ha, (fun d2 e2 => by cases e2; exact ⟨_, s1.at hdd⟩), N.ex, .own _, k5, (by show 3 ≤ sizeLine; decide), fun q1 m1' => ?_⟩
    have t1 := same_new (o := .lst [.bl (decide (3 = i)), .bl (decide (4 = i)), .bl (decide (5 = i))]) m1'
    refine ⟨p1, q1, _, _, rfl, rfl, t1.at upd_same, upd_same, (by show 3 + 3 ≤ sizeLine; decide), fun p2 n2 => ?_⟩
    have s2 := (s1.trans t1).trans (same_new (o := .lst ([.bl (decide (0 = i)), .bl (decide (1 = i)), .bl (decide (2 = i))] ++ [.bl (decide (3 = i)), .bl (decide (4 = i)), .bl (decide (5 = i))])) n2)
    refine ⟨_, rfl, _, rfl, a, C, some dd, _, _, _, rfl, s2.at ha, (fun d2 e2 => by cases e2; exact ⟨_, s2.at hdd⟩), N.ex, .own _, k6,
      _, rfl, a, C, some dd, _, _, _, rfl, s2.at ha, (fun d2 e2 => by cases e2; exact ⟨_, s2.at hdd⟩), N.ex, .own _, k7,
      _, rfl, a, C, some dd, _, _, _, rfl, s2.at ha, (fun d2 e2 => by cases e2; exact ⟨_, s2.at hdd⟩), N.ex, .own _, k8, (by show 3 ≤ sizeLine; decide), fun q2 m2' => ?_⟩
    have t2 := same_new (o := .lst [.bl (decide (6 = i)), .bl (decide (7 = i)), .bl (decide (8 = i))]) m2'
    refine ⟨p2, q2, _, _, rfl, rfl, t2.at upd_same, upd_same, (by show 6 + 3 ≤ sizeLine; decide), fun p3 n3 => ?_⟩
    have s3 := (s2.trans t2).trans (same_new (o := .lst (([.bl (decide (0 = i)), .bl (decide (1 = i)), .bl (decide (2 = i))] ++ [.bl (decide (3 = i)), .bl (decide (4 = i)), .bl (decide (5 = i))]) ++ [.bl (decide (6 = i)), .bl (decide (7 = i)), .bl (decide (8 = i))])) n3)
    refine ⟨_, rfl, _, rfl, a, C, some dd, _, _, _, rfl, s3.at ha, (fun d2 e2 => by cases e2; exact ⟨_, s3.at hdd⟩), N.ex, .own _, k9,
      _, rfl, a, C, some dd, _, _, _, rfl, s3.at ha, (fun d2 e2 => by cases e2; exact ⟨_, s3.at hdd⟩), N.ex, .own _, k10,
      _, rfl, a, C, some dd, _, _, _, rfl, s3.at ha, (fun d2 e2 => by cases e2; exact ⟨_, s3.at hdd⟩), N.ex, .own _, k11, (by show 3 ≤ sizeLine; decide), fun q3 m3' => ?_⟩
    have t3 := same_new (o := .lst [.bl (decide (9 = i)), .bl (decide (10 = i)), .bl (decide (11 = i))]) m3'
    refine ⟨p3, q3, _, _, rfl, rfl, t3.at upd_same, upd_same, (by show 9 + 3 ≤ sizeLine; decide), fun p4 n4 => ?_⟩
    have s4 := (s3.trans t3).trans (same_new (o := .lst ((([.bl (decide (0 = i)), .bl (decide (1 = i)), .bl (decide (2 = i))] ++ [.bl (decide (3 = i)), .bl (decide (4 = i)), .bl (decide (5 = i))]) ++ [.bl (decide (6 = i)), .bl (decide (7 = i)), .bl (decide (8 = i))]) ++ [.bl (decide (9 = i)), .bl (decide (10 = i)), .bl (decide (11 = i))])) n4)
    have e12 : ((([.bl (decide (0 = i)), .bl (decide (1 = i)), .bl (decide (2 = i))] ++ [.bl (decide (3 = i)), .bl (decide (4 = i)), .bl (decide (5 = i))]) ++ [.bl (decide (6 = i)), .bl (decide (7 = i)), .bl (decide (8 = i))]) ++ [.bl (decide (9 = i)), .bl (decide (10 = i)), .bl (decide (11 = i))]) = bits i := rfl
    refine ⟨_, rfl, a, C, some dd, _, _, _, rfl, s4.at ha, (fun d2 e2 => by cases e2; exact ⟨_, s4.at hdd⟩), N.ex, .own _, kS, _, rfl, iteF ?_⟩
    refine ⟨_, rfl, a, C, some dd, _, _, _, rfl, s4.at ha, (fun d2 e2 => by cases e2; exact ⟨_, s4.at hdd⟩), N.ex, .ty "ValueError", N.kv, _, rfl, iteF ?_⟩
    refine ⟨_, rfl, .inl ⟨rfl, _, SqL.of upd_same⟩, p4, _, _, rfl, rfl, SqL.of upd_same, rfl, ?_, ?_⟩
    · rw [e12]
      exact bits_flat i
    rw [e12]
    have ec : (bits i).countP (fun z => eqV z (.bl true)) = 1 := bits_cnt ⟨i, by omega⟩
    rw [ec]
    refine ⟨rfl, _, rfl, iteF ?_⟩
    refine ⟨_, rfl, .inl ⟨rfl, _, SqL.of upd_same⟩, p4, _, _, i, .bl (decide (i = i)), rfl, rfl, SqL.of upd_same, rfl, bits_flat i, bits_get (by omega), by rw [decide_eq_true rfl]; rfl, fun m z' hm hz => ?_, ?_⟩
    · rw [bits_get (by omega)] at hz
      cases hz
      rw [decide_eq_false (by omega)]
      rfl
    refine ⟨_, rfl, _, _, rfl, rfl, _, rfl, ?_⟩
    rw [decide_eq_true (show (i : Int) < 7 by omega)]
    refine iteT ⟨(by show 7 ≤ sizeLine; decide), fun l nl => ?_⟩
    have s5 := s4.trans (same_new (o := .lst (words7.map V.str)) nl)
    have ew : (words7.map V.str)[i]? = some (.str (words7.getD i "")) := by
      rw [List.getElem?_map, List.getD_eq_getElem?_getD]
      have hl : i < words7.length := hi
      rw [List.getElem?_eq_getElem hl]
      rfl
    refine ⟨_, rfl, l, _, _, _, rfl, rfl, SqL.of upd_same, atI_nat ew, _, rfl, a, C, dd, _, v, rfl, s5.at ha, s5.at hdd, by simp [List.lookup], N.xf, N.noP, (by show 2 ≤ sizeLine; decide), fun t nt => ?_⟩
    exact k t _ (s5.trans (same_new nt)) upd_same
end
end Vk
namespace Vk
open PySem PySem.Spec PyProof.Rows L2
theorem kit_same {K : PySem.W.Frag} {t : Value} : PySem.W.kitOne K t t = some true := by
  unfold PySem.W.kitOne
  rw [if_pos (beq_self_eq_true t)]
theorem kit_sub {K : PySem.W.Frag} {C D : Addr} (h1 : PySem.W.isClsIn K D = true) (h2 : PySem.W.typeIn K (.ref D) = some (.type "type")) (h3 : PySem.W.subIn K (.ref C) (.ref D) = some true) : PySem.W.kitOne K (.ref C) (.ref D) = some true := by
  unfold PySem.W.kitOne
  have e : ((PySem.W.clsIn K D).isSome && PySem.W.typeIn K (.ref D) == some (.type "type")) = true := by
    have h1' : (PySem.W.clsIn K D).isSome = true := h1
    rw [h1', h2]
    rfl
  by_cases z : (Value.ref C == Value.ref D) = true
  · rw [if_pos z]
  · rw [if_neg z]
    show (if ((PySem.W.clsIn K D).isSome && PySem.W.typeIn K (.ref D) == some (.type "type")) = true then PySem.W.subIn K (.ref C) (.ref D) else none) = _
    rw [if_pos e, h3]
theorem kit_ref {K : PySem.W.Frag} {C D : Addr} {b : Bool} (z : (Value.ref C == Value.ref D) = false) (h1 : PySem.W.isClsIn K D = true) (h2 : PySem.W.typeIn K (.ref D) = some (.type "type")) (h3 : PySem.W.subIn K (.ref C) (.ref D) = some b) : PySem.W.kitOne K (.ref C) (.ref D) = some b := by
  unfold PySem.W.kitOne
  have e : ((PySem.W.clsIn K D).isSome && PySem.W.typeIn K (.ref D) == some (.type "type")) = true := by
    have h1' : (PySem.W.clsIn K D).isSome = true := h1
    rw [h1', h2]
    rfl
  rw [if_neg (by rw [z]; exact Bool.false_ne_true)]
  show (if ((PySem.W.clsIn K D).isSome && PySem.W.typeIn K (.ref D) == some (.type "type")) = true then PySem.W.subIn K (.ref C) (.ref D) else none) = _
  rw [if_pos e, h3]
theorem kit_ve {K : PySem.W.Frag} {C : Addr} (h3 : PySem.W.subIn K (.ref C) (.type "ValueError") = some true) : PySem.W.kitOne K (.ref C) (.type "ValueError") = some true := by
  unfold PySem.W.kitOne
  have e : PySem.W.kitMeta "ValueError" = true := by decide +kernel
  rw [if_neg (by intro z; cases z)]
  show (if PySem.W.kitMeta "ValueError" = true then PySem.W.subIn K (.ref C) (.type "ValueError") else none) = _
  rw [if_pos e, h3]
end Vk
namespace Vk
open PySem PySem.Spec PyProof.Rows L2 GxR
def Of2 (l a : Addr) (H : Hp) : Hp := Off l (Off a H)
theorem of2_sub (l a : Addr) (H : Hp) : Same (Of2 l a H) H := (off_sub l _).trans (off_sub a H)
theorem of2_mono {l a : Addr} {H H' : Hp} (s : Same H H') : Same (Of2 l a H) (Of2 l a H') := off_mono (off_mono s)
theorem of2_kept {l a : Addr} {H H' : Hp} (k : Kept a H H') : Same (Of2 l a H) (Of2 l a H') := off_mono k
theorem of2_self {a : Addr} {H : Hp} : Of2 a a H = Off a H := by
  unfold Of2
  exact off_none off_same
theorem of2_new {l a : Addr} {H : Hp} {o : HO} (n : H l = none) (la : l ≠ a) : Of2 l a (upd H l o) = Off a H := by
  unfold Of2
  rw [off_other la, off_upd, off_none (off_free n)]
theorem of2_upd {l a : Addr} {H : Hp} {o : HO} (la : l ≠ a) : Of2 l a (upd H l o) = Of2 l a H := by
  unfold Of2
  rw [off_other la, off_upd]
theorem kept_has {a l : Addr} {H H' : Hp} (k : Kept a H H') (la : l ≠ a) (h : H l ≠ none) : H' l ≠ none := by
  have z := Same.has k l (by rw [off_ne la]; exact h)
  rw [off_ne la] at z
  exact z
theorem has2 {sc a l : Addr} {n : Int} {H H' : Hp} (S : Sto sc a n H') (k : Kept a H H') (h : H l ≠ none) : H' a ≠ none ∧ H' l ≠ none := by
  refine ⟨S.hasA, ?_⟩
  by_cases e : l = a
  · rw [e]
    exact S.hasA
  · exact kept_has k e h
theorem Same.has2 {a l : Addr} {H H' : Hp} (s : Same H H') (h : H a ≠ none ∧ H l ≠ none) : H' a ≠ none ∧ H' l ≠ none := ⟨s.has a h.1, s.has l h.2⟩
section
variable {K : PySem.W.Frag} {a l p : Addr} {G : Hp} {vs : List V} {ds : List PyData} {o : HO}
theorem new_tup2 (hA : G a ≠ none ∧ G l ≠ none) (np : G p = none) (h : DpAll K (Of2 l a G) vs ds) : Dp K (Of2 l a (upd G p (.tup vs))) (.ref p) (.tuple ds) := by
  have pa : p ≠ a := ne_has hA.1 np
  have pl : p ≠ l := ne_has hA.2 np
  exact .tup (SqT.of (by unfold Of2; rw [off_ne pl, off_ne pa, upd_same])) (dps_same (of2_mono (same_new np)) h)
theorem new_lst2 (hA : G a ≠ none ∧ G l ≠ none) (np : G p = none) (h : DpAll K (Of2 l a G) vs ds) : Dp K (Of2 l a (upd G p (.lst vs))) (.ref p) (.list ds) := by
  have pa : p ≠ a := ne_has hA.1 np
  have pl : p ≠ l := ne_has hA.2 np
  exact .lst (SqL.of (by unfold Of2; rw [off_ne pl, off_ne pa, upd_same])) (dps_same (of2_mono (same_new np)) h)
theorem dp_up2 {H H' : Hp} {v : V} {d : PyData} (s : Same H H') (h : Dp K (Of2 l a H) v d) : Dp K (Of2 l a H') v d := dp_same (of2_mono s) h
theorem cat_go2 {H : Hp} {x y : V} {ds es : List PyData} {Q : VK} (hA : H a ≠ none ∧ H l ≠ none) (hx : Dp K (Of2 l a H) x (.tuple ds)) (hy : Dp K (Of2 l a H) y (.tuple es)) (hl : ds.length + es.length ≤ 1000)
    (k : ∀ z H', Same H H' → Dp K (Of2 l a H') z (.tuple (ds ++ es)) → Q z H') : rCatA K x y H Q := by
  obtain ⟨p, xs, rfl, qx, rx⟩ := dp_tuple hx
  obtain ⟨q, ys, rfl, qy, ry⟩ := dp_tuple hy
  have l1 := dps_len rx
  have l2 := dps_len ry
  refine ⟨p, q, xs, ys, rfl, rfl, same_seqT (of2_sub l a H) qx, same_seqT (of2_sub l a H) qy, Nat.le_trans (show xs.length + ys.length ≤ 1000 by omega) (by decide), fun e => ?_, fun _ e => ?_, fun _ _ t nt => ?_⟩
  · subst e
    have e2 : ds = [] := List.eq_nil_of_length_eq_zero l1.symm
    subst e2
    exact k _ H (Same.refl H) hy
  · subst e
    have e2 : es = [] := List.eq_nil_of_length_eq_zero l2.symm
    subst e2
    rw [List.append_nil] at k
    exact k _ H (Same.refl H) hx
  · exact k _ _ (same_new nt) (new_tup2 hA nt (dps_app rx ry))
theorem slice_go2 {H : Hp} {x : V} {ds : List PyData} {lo hi : Option Int} {Q : VK} (hA : H a ≠ none ∧ H l ≠ none) (hx : Dp K (Of2 l a H) x (.tuple ds))
    (k : ∀ z H', Same H H' → Dp K (Of2 l a H') z (.tuple ((ds.drop (HT.sIx ds.length 0 lo)).take (HT.sIx ds.length ds.length hi - HT.sIx ds.length 0 lo))) → Q z H') : rSlA K x lo hi H Q := by
  obtain ⟨p, xs, rfl, qx, rx⟩ := dp_tuple hx
  have l1 := dps_len rx
  refine ⟨p, xs, rfl, same_seqT (of2_sub l a H) qx, fun w => ?_, fun _ t nt => ?_⟩
  · rw [l1] at w
    have z := k (.ref p) H (Same.refl H)
    rw [w.1, w.2, List.drop_zero, Nat.sub_zero, List.take_length] at z
    exact z hx
  · refine k _ _ (same_new nt) (new_tup2 hA nt ?_)
    unfold cutV
    rw [l1]
    exact dps_take _ (dps_drop _ rx)
end
theorem new_at {G : Hp} {p : Addr} {o : HO} (_s : Same G (upd G p o)) : upd G p o p = some o := upd_same
theorem atI_get {α : Type} {xs : List α} {r : Int} (h0 : 0 ≤ r) (h1 : r < xs.length) : ∃ x, atI xs r = some x := by
  have hj : r.toNat < xs.length := by omega
  have z := atI_nat (List.getElem?_eq_getElem hj)
  rw [Int.toNat_of_nonneg h0] at z
  exact ⟨_, z⟩
theorem dp_lst {K : PySem.W.Frag} {H : Hp} {v : V} {ds : List PyData} (h : Dp K H v (.list ds)) : ∃ p xs, v = .ref p ∧ SqL K H p xs ∧ DpAll K H xs ds := by
  cases h with
  | lst q r => exact ⟨_, _, rfl, q, r⟩
/-- an item of a list of data -/
theorem pick_dp {K : PySem.W.Frag} {a l : Addr} {H : Hp} {v : V} {ds : List PyData} {r : Int} (h : Dp K (Of2 l a H) v (.list ds)) (h0 : 0 ≤ r) (h1 : r < ds.length) : ∃ p xs x d, v = .ref p ∧ SqL K H p xs ∧ atI xs r = some x ∧ d ∈ ds ∧ Dp K (Of2 l a H) x d := by
  obtain ⟨p, xs, rfl, q, rr⟩ := dp_lst h
  obtain ⟨x, d, e1, e2, e3⟩ := atI_dp rr h0 h1
  exact ⟨p, xs, x, d, rfl, (of2_sub l a H).seq q, e1, List.mem_of_getElem? e2, e3⟩
def rEqNilT (K : PySem.W.Frag) : R2 := fun x y H Q => ∃ p q xs, x = .ref p ∧ y = .ref q ∧ SqT K H p xs ∧ SqT K H q [] ∧ Q (.bl xs.isEmpty) H
theorem op_eqNilT {X : Cx} (hu : X.A.units < cLine) : OpR X (compareOp .Eq) (rEqNilT X.K) := by
  intro pins s σ H x y v u Q I rx ry h
  obtain ⟨p, q, xs, rfl, rfl, hp, hq, k⟩ := h
  cases rx
  cases ry
  obtain ⟨is1, r1, p1, _⟩ := I.tuple hp
  obtain ⟨is2, r2, p2, _⟩ := I.tuple hq
  cases r2
  have z : ((List.range (min is1.toArray.size ([] : List Value).toArray.size)).all (fun _ => true) && is1.toArray.size == ([] : List Value).toArray.size) = xs.isEmpty := by
    cases xs with
    | nil =>
      cases r1
      rfl
    | cons x r =>
      cases r1
      simp
  refine SeqAt.eq_tupleAt (e := fun _ => true) p1 p2 hu (fun j _ h2 => absurd h2 (Nat.not_lt_zero _)) ?_
  rw [z]
  exact ⟨.bl xs.isEmpty, H, I, rfl, k⟩
end Vk
namespace Vk
open PySem PySem.Spec PyProof.Rows L2 GxR
abbrev sLogInit : Stmt := inClass (top 5) 0
/-- a pair of a log -/
def pairP (p : Int × Int) : PyData := .tuple [.int p.1, .int p.2]
def pairD (before : Int) : PyData → Option (Int × Int)
  | .tuple [.int u, .int f] => if before + 1 ≤ u ∧ 1 ≤ f then some (u, f) else none
  | _ => none
/-- the place of the first wrong pair -/
def badPair : Int → Nat → List PyData → Option Nat
  | _, _, [] => none
  | b, i, d :: ds => match pairD b d with
    | some p => badPair p.1 (i + 1) ds
    | none => some i
def logPlace : PyData → Option Int
  | .tuple ds => match badPair 0 0 ds with
    | some i => some (i : Int)
    | none => none
  | _ => some 0
def lenLog : PyData → Nat
  | .tuple ds => ds.length
  | _ => 0
/-- ascending units from behind b on, finishes from 1 on -/
def Asc : Int → List (Int × Int) → Prop
  | _, [] => True
  | b, p :: r => b + 1 ≤ p.1 ∧ 1 ≤ p.2 ∧ Asc p.1 r
theorem pairD_some {b : Int} {d : PyData} {p : Int × Int} (h : pairD b d = some p) : d = pairP p ∧ b + 1 ≤ p.1 ∧ 1 ≤ p.2 := by
  unfold pairD at h
  split at h
  · split at h
    · cases h
      rename_i h
      exact ⟨rfl, h.1, h.2⟩
    · cases h
  · cases h
theorem pairD_P {b : Int} {p : Int × Int} (h1 : b + 1 ≤ p.1) (h2 : 1 ≤ p.2) : pairD b (pairP p) = some p := by
  show (if b + 1 ≤ p.1 ∧ 1 ≤ p.2 then some (p.1, p.2) else none) = some p
  rw [if_pos ⟨h1, h2⟩]
theorem bad_pairs : ∀ {ds : List PyData} {b : Int} {i : Nat}, badPair b i ds = none → ∃ lg, ds = lg.map pairP ∧ Asc b lg
  | [], _, _, _ => ⟨[], rfl, trivial⟩
  | d :: ds, b, i, h => by
    have e : badPair b i (d :: ds) = match pairD b d with
      | some p => badPair p.1 (i + 1) ds
      | none => some i := rfl
    rw [e] at h
    cases hp : pairD b d with
    | none =>
      rw [hp] at h
      cases h
    | some p =>
      rw [hp] at h
      obtain ⟨e1, e2, e3⟩ := pairD_some hp
      obtain ⟨lg, e4, e5⟩ := bad_pairs (ds := ds) h
      exact ⟨p :: lg, by rw [e1, e4]; rfl, e2, e3, e5⟩
theorem asc_pairs : ∀ {lg : List (Int × Int)} {b : Int} {i : Nat}, Asc b lg → badPair b i (lg.map pairP) = none
  | [], _, _, _ => rfl
  | p :: lg, b, i, h => by
    show (match pairD b (pairP p) with
      | some p => badPair p.1 (i + 1) (lg.map pairP)
      | none => some i) = none
    rw [pairD_P h.1 h.2.1]
    exact asc_pairs h.2.2
theorem log_pairs {d : PyData} (h : logPlace d = none) : ∃ lg, d = .tuple (lg.map pairP) ∧ Asc 0 lg := by
  cases d with
  | tuple ds =>
    have z : (match badPair 0 0 ds with
      | some i => some (i : Int)
      | none => none) = none := h
    cases hb : badPair 0 0 ds with
    | some i =>
      rw [hb] at z
      cases z
    | none =>
      obtain ⟨lg, e1, e2⟩ := bad_pairs hb
      exact ⟨lg, by rw [e1], e2⟩
  | _ => cases h
theorem log_none {lg : List (Int × Int)} (h : Asc 0 lg) : logPlace (.tuple (lg.map pairP)) = none := by
  show (match badPair 0 0 (lg.map pairP) with
    | some i => some (i : Int)
    | none => none) = none
  rw [asc_pairs h]
/-- a pair that is no pair -/
theorem pair_not {b : Int} {d : PyData} (h : tupleND 2 d = false) : pairD b d = none := by
  cases d with
  | tuple ds =>
    have z : ¬ (ds.length : Int) = 2 := of_decide_eq_false h
    match ds, z with
    | [a, b], z => exact absurd rfl z
    | [], _ => rfl
    | [x], _ => cases x <;> rfl
    | x :: y :: _ :: l, _ => cases x <;> first | rfl | (cases y <;> rfl)
  | _ => rfl
theorem pair_fst {b : Int} {x y : PyData} (h : integerD (b + 1) x = false) : pairD b (.tuple [x, y]) = none := by
  cases x with
  | int u =>
    cases y with
    | int f =>
      show (if b + 1 ≤ u ∧ 1 ≤ f then some (u, f) else none) = none
      rw [if_neg (fun z => (of_decide_eq_false h) z.1)]
    | _ => rfl
  | _ => rfl
theorem pair_snd {b : Int} {x y : PyData} (h : integerD 1 y = false) : pairD b (.tuple [x, y]) = none := by
  cases x with
  | int u =>
    cases y with
    | int f =>
      show (if b + 1 ≤ u ∧ 1 ≤ f then some (u, f) else none) = none
      rw [if_neg (fun z => (of_decide_eq_false h) z.2)]
    | _ => rfl
  | _ => rfl
theorem int_of {m : Int} {q : PyData} (z : integerD m q = true) : ∃ i, q = .int i ∧ m ≤ i := by
  cases q with
  | int i => exact ⟨i, rfl, of_decide_eq_true z⟩
  | _ => cases z
/-- the numbers of present and of running jobs -/
def presI (js : List PyData) (u f : Int) : Int := (countA js (u - 1) f : Int) - f
def runI (js : List PyData) (u f c : Int) : Int := if c < presI js u f then c else presI js u f
/-- the certificate of impossibility, or none -/
def certD (js : List PyData) (c : Int) : Int → List (Int × Int) → PyData
  | f, [] => if f = (js.length : Int) then .none else .tuple [.str "unfinished", .int ((js.length : Int) - f)]
  | f, p :: r => if runI js p.1 f c < p.2 then .tuple [.str "crowded", .int p.1, .int (runI js p.1 f c)] else certD js c (f + p.2) r
theorem count_le (js : List PyData) (m f : Int) : countA js m f ≤ js.length := by
  unfold countA
  have z : (js.map arrD).countP (reachA m f) ≤ (js.map arrD).length := List.countP_le_length
  rw [List.length_map] at z
  exact z
theorem run_le {js : List PyData} {u f c : Int} : runI js u f c ≤ presI js u f := by
  unfold runI
  split <;> omega
section
variable {P : Program} {w : World} {K : PySem.W.Frag} {mg : Str → Option Value} {base : Heap}
theorem scLogInit : FnScope ["self", "place"] ["self", "place"] (defScope sLogInit) := ⟨rfl, rfl, rfl, by decide +kernel, rfl, by decide +kernel, by decide +kernel⟩
theorem ok_logInit {C fI : Addr} {fd : FuncData} (F : Fun K "__init__" "NoLog.__init__" sLogInit fI fd) (T : OexC K C) (no : PySem.W.findIn K (.ref C) "place" = some none) : FnOk P w K mg base CX0 1 fI fd ["self", "place"] (spIni C "place") := by
  refine F.ok scLogInit (fun vs H Q E h => ?_) (fun cdv A outer s H vs Q E hr h => ?_)
  · obtain ⟨a, v, rfl, _⟩ := h
    rfl
  · obtain ⟨a, v, rfl, ha, k⟩ := h
    refine ⟨_, pss_one (ps_ost (pv 0) (pv 1)), ?_⟩
    exact ⟨_, rfl, _, rfl, a, C, rfl, T, no, .inl ⟨ha, fun dx n1 n2 => k dx n1 n2⟩⟩
theorem erc_log {C : Addr} (g : mg "NoLog" = some (.ref C)) (T : OexC K C) (no : PySem.W.findIn K (.ref C) "place" = some none) (N : Nit K "NoLog" "NoLog.__init__" "place" sLogInit C) : ErC P w K mg base "NoLog" "place" C := by
  obtain ⟨fI, fd, h1, h2, h3, h4⟩ := N.ex
  exact ⟨g, T, fI, fd, h1, h2, h4, ok_logInit h3 T no⟩
def spCheckLog (K : PySem.W.Frag) (C : Addr) : Sp := fun vs H Q E => ∃ (v : V) (d : PyData), vs = [v] ∧ Dp K H v d ∧ lenLog d ≤ 50000 ∧ (logPlace d = none → ∀ H', Same H H' → Q .non H') ∧
  (∀ i, logPlace d = some i → ∀ (dx : Addr) (H' : Hp), Same H H' → H' dx = some (.xd [(("place" : Str), .int i)]) → E (.ref C) (some dx) H')
theorem scCheckLog : FnScope ["log", "before", "place", "pair"] ["log"] (defScope sCheckLog) := ⟨rfl, rfl, rfl, by decide +kernel, rfl, by decide +kernel, by decide +kernel⟩
theorem ok_checkLog {C : Addr} (D : Df K mg "check_log" sCheckLog ["log"]) (B : Blt mg) (ER : ErC P w K mg base "NoLog" "place" C) (T : Cl P w K mg base CX0 1 "is_tuple_of" ["value", "many"] (spTupleOf K)) (I : Cl P w K mg base CX0 1 "is_integer" ["value", "least"] (spInteger K)) :
    Cl P w K mg base (L2.CX P w) 3 "check_log" ["log"] (spCheckLog K C) := by
  refine clX D scCheckLog (fun vs H Q E h => ?_) (fun f cdv A outer s H vs Q E hr h => ?_)
  · obtain ⟨v, d, rfl, _⟩ := h
    rfl
  · obtain ⟨v, d, rfl, hd, ld, kN, kE⟩ := h
    refine ⟨_, pss_cons (ps_if (pt_not (pt_val (pe_callB call_isi (by rfl) B.isi (by decide +kernel) (pa_cons (pv 0) (pa_cons (pe_bltn (v := .ty "tuple") (u := .type "tuple") (by rfl) B.tuple (by decide +kernel) rfl) pa_nil))))) (pss_one (ps_raiseE ER rfl hr (by decide) (takes_of rfl rfl rfl rfl) pe_int)) pss_nil)
      (pss_cons (ps_set (i := 1) scCheckLog.nd rfl (Or.inl rfl) pe_int)
      (pss_one (ps_for (passes_of rfl) rfl (pi_enumT B.enum (pa_cons (pv 0) pa_nil)) (pg_tup rfl (pgs_cons (pg_name (i := 2) scCheckLog.nd rfl (.inl rfl)) (pgs_cons (pg_name (i := 3) scCheckLog.nd rfl (.inl rfl)) pgs_nil)))
        (pss_cons (ps_if (PW.pt (pw_or (pt_not (pt_val (pc T hr (by decide) (pa_cons (pv 3) (pa_cons pe_int pa_nil))))) (pw_or (pt_not (pt_val (pc I hr (by decide) (pa_cons (pe_ix ix_tup (pv 3) pe_int (fun _ _ => rfl)) (pa_cons (pe_op op_add (pv 1) pe_int) pa_nil)))))
            (pw_or1 (pt_not (pt_val (pc I hr (by decide) (pa_cons (pe_ix ix_tup (pv 3) pe_int (fun _ _ => rfl)) (pa_cons pe_int pa_nil)))))))))
          (pss_one (ps_raiseE ER rfl hr (by decide) (takes_of rfl rfl rfl rfl) (pv 2))) pss_nil)
        (pss_one (ps_set (i := 1) scCheckLog.nd rfl (Or.inl rfl) (pe_ix ix_tup (pv 3) pe_int (fun _ _ => rfl)))))))), ?_⟩
    refine ⟨_, rfl, v, _, _, _, _, rfl, .ty "tuple", dp_ty hd, kit_tup hd, _, rfl, ?_⟩
    cases htup : isTupD d with
    | false =>
      have e2 : logPlace d = some 0 := by
        cases d with
        | tuple ds => cases htup
        | _ => rfl
      refine iteT ?_
      exact raise_go fun dx H2 s1 _ hx => kE 0 e2 dx H2 s1 hx
    | true =>
      obtain ⟨ds, rfl⟩ : ∃ ds, d = .tuple ds := by
        cases d with
        | tuple ls => exact ⟨ls, rfl⟩
        | _ => cases htup
      obtain ⟨pj, xs, rfl, qj, rj⟩ := dp_tuple hd
      have xl := dps_len rj
      have lp : logPlace (.tuple ds) = match badPair 0 0 ds with
        | some i => some (i : Int)
        | none => none := rfl
      refine iteF ⟨_, rfl, pj, xs, rfl, qj, for_it (walk_enumT (K := K) (a := pj) (xs := xs)) (fun i σ G => ∃ (b : Int) (u2 u3 : Option V), σ = [some (.ref pj), some (.int b), u2, u3] ∧ Same H G ∧ badPair 0 0 ds = badPair b i (ds.drop i))
        ⟨0, none, none, rfl, Same.refl H, rfl⟩ (fun i σ G _ ⟨_, _, _, _, s1, _⟩ => same_seqT s1 qj) ?_ ?_⟩
      · rintro i v1 σ G G2 hi ⟨b, u2, u3, rfl, s1, eb⟩ ⟨TT, x1, y1, rfl, nT, rfl, ex, ey⟩
        cases ex
        obtain ⟨d1, hd1, dp1⟩ := dps_getV rj ey
        have s2 := s1.trans (same_new (o := .tup [V.int (i : Nat), y1]) nT)
        have dr : ds.drop i = d1 :: ds.drop (i + 1) := by
          obtain ⟨h1, h2⟩ := List.getElem?_eq_some_iff.mp hd1
          rw [List.drop_eq_getElem_cons h1, h2]
        rw [dr] at eb
        replace eb : badPair 0 0 ds = match pairD b d1 with
          | some p => badPair p.1 (i + 1) (ds.drop (i + 1))
          | none => some i := eb
        refine ⟨TT, _, rfl, SqT.of upd_same, rfl, _, _, rfl, _, _, rfl, rfl, ?_⟩
        have stop : pairD b d1 = none → ∀ (dx : Addr) (H' : Hp), Same H H' → H' dx = some (.xd [(("place" : Str), .int (i : Int))]) → E (.ref C) (some dx) H' := fun hp dx H' s' hx => kE (i : Int) (by rw [lp, eb, hp]) dx H' s' hx
        have dp2 := dp_same s2 dp1
        refine ⟨_, rfl, y1, d1, 2, rfl, dp2, _, rfl, ?_⟩
        cases ht : tupleND 2 d1 with
        | false =>
          refine iteT (iteT ⟨_, rfl, ?_⟩)
          exact raise_go fun dx H5 s5 _ hx => stop (pair_not ht) dx H5 (s2.trans s5) hx
        | true =>
          obtain ⟨x, y, rfl⟩ := tup_two ht
          obtain ⟨pp, xv, yv, rfl, qp, dx', dy'⟩ := dp_two dp2
          refine iteF ⟨_, rfl, pp, _, _, _, rfl, rfl, qp, rfl, _, rfl, _, _, rfl, rfl, xv, x, b + 1, rfl, dx', _, rfl, ?_⟩
          cases h1 : integerD (b + 1) x with
          | false =>
            refine iteT (iteT ⟨_, rfl, ?_⟩)
            exact raise_go fun dx H5 s5 _ hx => stop (pair_fst h1) dx H5 (s2.trans s5) hx
          | true =>
            refine iteF ⟨_, rfl, pp, _, _, _, rfl, rfl, qp, rfl, yv, y, 1, rfl, dy', _, rfl, ?_⟩
            cases h2 : integerD 1 y with
            | false =>
              refine iteT ⟨_, rfl, ?_⟩
              exact raise_go fun dx H5 s5 _ hx => stop (pair_snd h2) dx H5 (s2.trans s5) hx
            | true =>
              obtain ⟨u, rfl, hu⟩ := int_of h1
              obtain ⟨f, rfl, hf⟩ := int_of h2
              have exv := dp_int dx'
              subst exv
              refine iteF ⟨_, rfl, pp, _, _, _, rfl, rfl, qp, rfl, u, _, _, rfl, s2, ?_⟩
              rw [eb, show pairD b (.tuple [.int u, .int f]) = some (u, f) from pairD_P (p := (u, f)) hu hf]
      · rintro σ G ⟨b, u2, u3, rfl, s1, eb⟩
        rw [xl, List.drop_length] at eb
        exact kN (by rw [lp, eb]; rfl) G s1
def spPresent (K : PySem.W.Frag) : Sp := fun vs H Q _ => ∃ (v : V) (js : List PyData) (m f : Int), vs = [v, .int m, .int f] ∧ Dp K H v (.tuple js) ∧ js.all jobD = true ∧ js.length ≤ 900 ∧ ∀ H', Same H H' → Q (.int ((countA js m f : Nat) - f)) H'
theorem scPresent : FnScope ["jobs", "moment", "finished"] ["jobs", "moment", "finished"] (defScope sPresent) := ⟨rfl, rfl, rfl, by decide +kernel, rfl, by decide +kernel, by decide +kernel⟩
theorem ok_present (D : Df K mg "count_present" sPresent ["jobs", "moment", "finished"]) (CA : Cl P w K mg base CX0 2 "count_arrived" ["jobs", "moment", "finished"] (spCount K)) : Cl P w K mg base CX0 3 "count_present" ["jobs", "moment", "finished"] (spPresent K) := by
  refine cl0 D scPresent (fun vs H Q E h => ?_) (fun f cdv A outer s H vs Q E hr h => ?_)
  · obtain ⟨v, js, m, f, rfl, _⟩ := h
    rfl
  · obtain ⟨v, js, m, fi, rfl, hd, okj, l9, k⟩ := h
    refine ⟨_, pss_one (ps_ret (pe_op op_sub (pc CA hr (by decide) (pa_cons (pv 0) (pa_cons (pv 1) (pa_cons (pv 2) pa_nil)))) (pv 2))), ?_⟩
    exact ⟨_, rfl, _, rfl, _, rfl, v, js, m, fi, rfl, hd, okj, l9, fun H2 s2 => ⟨_, rfl, _, _, rfl, rfl, k H2 s2⟩⟩
end
end Vk
namespace Vk
open PySem PySem.Spec PyProof.Rows L2 GxR
/-- a stretch: first, last, content -/
abbrev Trp := Int × Int × Int
def trD (p : Trp) : PyData := .tuple [.int p.1, .int p.2.1, .int p.2.2]
/-- stretches with the same content beside one another become one -/
def joinS (acc : List Trp) (p : Trp) : List Trp := match acc.getLast? with
  | some q => if q.2.2 = p.2.2 then acc.dropLast ++ [(q.1, p.2.1, p.2.2)] else acc ++ [p]
  | none => acc ++ [p]
def joinL (ps : List Trp) : List Trp := ps.foldl joinS []
theorem joinS_len {acc : List Trp} {p : Trp} : (joinS acc p).length ≤ acc.length + 1 := by
  unfold joinS
  split
  · split
    · rw [List.length_append, List.length_dropLast, List.length_singleton]
      omega
    · rw [List.length_append, List.length_singleton]
      omega
  · rw [List.length_append, List.length_singleton]
    omega
theorem atI_last {α : Type} {xs : List α} (h : 0 < xs.length) : atI xs (-1) = xs[xs.length - 1]? := by
  unfold atI ixN
  rw [if_neg (by decide), if_pos (by omega)]
  show xs[((xs.length : Int) + -1).toNat]? = _
  congr 1
  omega
theorem ixN_last {n : Nat} (h : 0 < n) : ixN n (-1) = some (n - 1) := by
  unfold ixN
  rw [if_neg (by decide), if_pos (by omega)]
  congr 1
  omega
theorem set_last {α : Type} {xs : List α} {y : α} (h : 0 < xs.length) : xs.set (xs.length - 1) y = xs.dropLast ++ [y] := by
  rw [List.set_eq_take_append_cons_drop, if_pos (by omega), List.dropLast_eq_take, List.drop_of_length_le (by omega)]
section
variable {P : Program} {w : World} {K : PySem.W.Frag} {mg : Str → Option Value} {base : Heap}
def spJoined (K : PySem.W.Frag) : Sp := fun vs H Q _ => ∃ (v : V) (ps : List Trp), vs = [v] ∧ Dp K H v (.list (ps.map trD)) ∧ ps.length ≤ 900 ∧ ∀ v' H', Same H H' → Dp K H' v' (.tuple ((joinL ps).map trD)) → Q v' H'
theorem scJoined : FnScope ["pieces", "stretches", "first", "last", "content"] ["pieces"] (defScope sJoined) := ⟨rfl, rfl, rfl, by decide +kernel, rfl, by decide +kernel, by decide +kernel⟩
theorem ok_joined (D : Df K mg "joined" sJoined ["pieces"]) (B : Blt mg) : Cl P w K mg base CX0 1 "joined" ["pieces"] (spJoined K) := by
  refine cl0 D scJoined (fun vs H Q E h => ?_) (fun f cdv A outer s H vs Q E hr h => ?_)
  · obtain ⟨v, ps, rfl, _⟩ := h
    rfl
  · obtain ⟨v, ps, rfl, hd, l9, k⟩ := h
    refine ⟨_, pss_cons (ps_set (i := 1) scJoined.nd rfl (Or.inl rfl) (pe_lst pa_nil))
      (pss_cons (ps_for PassesOwn.never rfl (pi_list (pv 0)) (pg_tup rfl (pgs_cons (pg_name (i := 2) scJoined.nd rfl (.inl rfl)) (pgs_cons (pg_name (i := 3) scJoined.nd rfl (.inl rfl)) (pgs_cons (pg_name (i := 4) scJoined.nd rfl (.inl rfl)) pgs_nil))))
        (pss_one (ps_if (PW.pt (pw_and (pt_truth (pv 1) (by intro _; rfl)) (pw_and1 (pt_cmpR op_eq (pe_ix ix_tup (pe_ix ix_list (pv 1) (pe_un un_neg pe_int) (fun _ _ => rfl)) pe_int (fun _ _ => rfl)) (pv 4) (nomark _)))))
          (pss_one (ps_asg (pe_tup (pa_cons (pe_ix ix_tup (pe_ix ix_list (pv 1) (pe_un un_neg pe_int) (fun _ _ => rfl)) pe_int (fun _ _ => rfl)) (pa_cons (pv 3) (pa_cons (pv 4) pa_nil)))) (pg_sub (pv 1) (pe_un un_neg pe_int) set_list)))
          (pss_one (ps_expr (pe_bm PySem.F.plainAttrs_list PySem.F.slot_list_append PySem.F.type_list_append mt_append (pv 1) (pa_cons (pe_tup (pa_cons (pv 2) (pa_cons (pv 3) (pa_cons (pv 4) pa_nil)))) pa_nil)))))))
      (pss_one (ps_ret (pe_callTy call_tuple_of (by rfl) B.tuple (by decide +kernel) (pa_cons (pv 1) pa_nil))))), ?_⟩
    refine ⟨(by show 0 ≤ sizeLine; decide), fun l nl => ?_⟩
    obtain ⟨pl, xs, rfl, ql, rl⟩ := dp_lst hd
    have s0 := same_new (o := .lst []) nl
    have xl := dps_len rl
    rw [List.length_map] at xl
    refine ⟨_, rfl, pl, rfl, ⟨_, s0.seq ql⟩, for_it (walk_list (K := K) (a := pl) (xs := xs)) (fun i σ G => ∃ (u2 u3 u4 : Option V) (zs : List V) (ts : List Trp), σ = [some (.ref pl), some (.ref l), u2, u3, u4] ∧ Same H (Off l G) ∧ G l = some (.lst zs) ∧ DpAll K (Off l G) zs (ts.map trD) ∧ joinL ps = (ps.drop i).foldl joinS ts ∧ ts.length ≤ i)
      ⟨none, none, none, [], [], rfl, by rw [off_upd, off_none nl]; exact Same.refl H, upd_same, .nil, rfl, Nat.le_refl _⟩ (fun i σ G _ ⟨_, _, _, _, _, _, s, _⟩ => (s.trans (off_sub l G)).seq ql) ?_ ?_⟩
    · rintro i y1 σ G0 G hi ⟨u2, u3, u4, zs, ts, rfl, sG, lG, dG, ej, tl⟩ ⟨rfl, hy1⟩
      have sF := sG.trans (off_sub l G)
      obtain ⟨d1, hd1, dd1⟩ := dps_getV rl hy1
      rw [List.getElem?_map] at hd1
      obtain ⟨p, hp, rfl⟩ := Option.map_eq_some_iff.mp hd1
      obtain ⟨p1, p2, p3⟩ := p
      have dr : ps.drop i = (p1, p2, p3) :: ps.drop (i + 1) := by
        obtain ⟨h1, h2⟩ := List.getElem?_eq_some_iff.mp hp
        rw [List.drop_eq_getElem_cons h1, h2]
      rw [dr, List.foldl_cons] at ej
      obtain ⟨pp, xv, yv, zv, rfl, qp, dx, dy, dz⟩ := dp_three (dp_same sF dd1)
      have ex := dp_int dx
      subst ex
      have ey := dp_int dy
      subst ey
      have ez := dp_int dz
      subst ez
      have zl := dps_len dG
      rw [List.length_map] at zl
      refine ⟨pp, _, rfl, qp, rfl, _, _, rfl, _, _, rfl, _, _, rfl, rfl, ?_⟩
      have small : zs.length < sizeLine := Nat.lt_of_le_of_lt (show zs.length ≤ 900 by omega) (by decide)
      have more : joinS ts (p1, p2, p3) = ts ++ [(p1, p2, p3)] → ∀ (t : Addr), G t = none → DpAll K (Off l (upd G t (.tup [.int p1, .int p2, .int p3]))) (zs ++ [.ref t]) ((joinS ts (p1, p2, p3)).map trD) := fun e t nt => by
        have tl2 : t ≠ l := fun e => by rw [e, lG] at nt; cases nt
        rw [e, List.map_append]
        refine dps_app (dps_same (off_mono (same_new nt)) dG) (.cons (.tup (a := t) (SqT.of ?_) (.cons (.int _) (.cons (.int _) (.cons (.int _) .nil)))) .nil)
        rw [off_ne tl2, upd_same]
      refine ⟨_, rfl, _, .inl ⟨zs, SqL.of lG, rfl⟩, ?_⟩
      have app : joinS ts (p1, p2, p3) = ts ++ [(p1, p2, p3)] → ∀ (t : Addr), G t = none → ∃ (u2 u3 u4 : Option V) (zs' : List V) (ts' : List Trp), ([some (.ref pl), some (.ref l), some (.int p1), some (.int p2), some (.int p3)] : L2.St) = [some (.ref pl), some (.ref l), u2, u3, u4] ∧
          Same H (Off l (upd (upd G t (.tup [.int p1, .int p2, .int p3])) l (.lst (zs ++ [.ref t])))) ∧ upd (upd G t (.tup [.int p1, .int p2, .int p3])) l (.lst (zs ++ [.ref t])) l = some (.lst zs') ∧
          DpAll K (Off l (upd (upd G t (.tup [.int p1, .int p2, .int p3])) l (.lst (zs ++ [.ref t])))) zs' (ts'.map trD) ∧ joinL ps = (ps.drop (i + 1)).foldl joinS ts' ∧ ts'.length ≤ i + 1 := fun e t nt =>
        ⟨_, _, _, zs ++ [.ref t], joinS ts (p1, p2, p3), rfl, by rw [off_upd]; exact sG.trans (off_mono (same_new nt)), upd_same, by rw [off_upd]; exact more e t nt, ej, Nat.le_trans joinS_len (by omega)⟩
      have none_ : zs = [] → joinS ts (p1, p2, p3) = ts ++ [(p1, p2, p3)] := fun e => by
        have e2 : ts = [] := List.eq_nil_of_length_eq_zero (by rw [← zl, e]; rfl)
        rw [e2]
        rfl
      cases he : zs.isEmpty with
      | true =>
        refine iteF (iteF ?_)
        refine ⟨_, rfl, .inl ⟨rfl, _, SqL.of lG⟩, _, rfl, _, rfl, _, rfl, (by show 3 ≤ sizeLine; decide), fun t nt => ?_⟩
        exact ⟨l, _, _, rfl, rfl, (same_new nt).at lG, small, app (none_ (List.isEmpty_iff.mp he)) t nt⟩
      | false =>
        have zpos : 0 < zs.length := by
          cases zs with
          | nil => cases he
          | cons x r => exact Nat.succ_pos _
        have hz : zs[zs.length - 1]? = some zs[zs.length - 1] := List.getElem?_eq_getElem (by omega)
        obtain ⟨dl, hdl, ddl⟩ := dps_getV dG hz
        generalize zs[zs.length - 1] = lv at hz ddl
        rw [List.getElem?_map] at hdl
        obtain ⟨q, hq, rfl⟩ := Option.map_eq_some_iff.mp hdl
        obtain ⟨q1, q2, q3⟩ := q
        have hlast : ts.getLast? = some (q1, q2, q3) := by
          rw [List.getLast?_eq_getElem?, ← zl]
          exact hq
        obtain ⟨pq, xq, yq, zq, rfl, qq, dxq, dyq, dzq⟩ := dp_three (dp_same (off_sub l G) ddl)
        have exq := dp_int dxq
        subst exq
        have ezq := dp_int dzq
        subst ezq
        have hat : atI zs (-1) = some (.ref pq) := by
          rw [atI_last zpos]
          exact hz
        refine iteT ⟨_, rfl, _, rfl, l, zs, _, _, rfl, rfl, SqL.of lG, hat, pq, _, _, _, rfl, rfl, qq, rfl, _, rfl, rfl, _, rfl, ?_⟩
        have js : joinS ts (p1, p2, p3) = if q3 = p3 then ts.dropLast ++ [(q1, p2, p3)] else ts ++ [(p1, p2, p3)] := by
          unfold joinS
          rw [hlast]
        by_cases hc : q3 = p3
        · rw [decide_eq_true (show V.int q3 = V.int p3 by rw [hc])]
          rw [if_pos hc] at js
          refine iteT ?_
          refine ⟨_, rfl, _, rfl, l, zs, _, _, rfl, rfl, SqL.of lG, hat, pq, _, _, _, rfl, rfl, qq, rfl, _, rfl, _, rfl, (by show 3 ≤ sizeLine; decide), fun t nt => ?_⟩
          have st := same_new (o := .tup [.int q1, .int p2, .int p3]) nt
          have tl2 : t ≠ l := fun e => by rw [e, lG] at nt; cases nt
          refine ⟨_, rfl, _, rfl, l, zs, _, zs.length - 1, rfl, rfl, st.at lG, ixN_last zpos, _, _, _, zs.dropLast ++ [.ref t], joinS ts (p1, p2, p3), rfl, ?_, ?_, ?_, ej, Nat.le_trans joinS_len (by omega)⟩
          · rw [off_upd]
            exact sG.trans (off_mono st)
          · rw [upd_same, set_last zpos]
          · rw [off_upd, js, List.map_append]
            have d2 := dps_take (zs.length - 1) (dps_same (off_mono st) dG)
            rw [← List.dropLast_eq_take, zl, ← List.length_map (f := trD), ← List.dropLast_eq_take, ← List.map_dropLast] at d2
            refine dps_app d2 (.cons (.tup (a := t) (SqT.of ?_) (.cons (.int _) (.cons (.int _) (.cons (.int _) .nil)))) .nil)
            rw [off_ne tl2, upd_same]
        · rw [decide_eq_false (fun e => hc (V.int.inj e))]
          rw [if_neg hc] at js
          refine iteF ?_
          refine ⟨_, rfl, .inl ⟨rfl, _, SqL.of lG⟩, _, rfl, _, rfl, _, rfl, (by show 3 ≤ sizeLine; decide), fun t nt => ?_⟩
          exact ⟨l, _, _, rfl, rfl, (same_new nt).at lG, small, app js t nt⟩
    · rintro σ G ⟨u2, u3, u4, zs, ts, rfl, sG, lG, dG, ej, tl⟩
      rw [xl, List.drop_length] at ej
      refine ⟨_, rfl, l, zs, rfl, .inl ⟨SqL.of lG, fun t nt => ?_⟩⟩
      have st := same_new (o := .tup zs) nt
      rw [show joinL ps = ts from ej] at k
      exact k (.ref t) _ ((sG.trans (off_sub l G)).trans st) (.tup (SqT.of upd_same) (dps_same ((off_sub l G).trans st) dG))
end
end Vk
namespace Vk
open PySem PySem.Spec PyProof.Rows L2 GxR
/-- the place of the first pair in which more finish than are there -/
def overAt (js : List PyData) : Int → Nat → List (Int × Int) → Option Nat
  | _, _, [] => none
  | f, i, p :: r => if presI js p.1 f < p.2 then some i else overAt js (f + p.2) (i + 1) r
/-- how many have finished by a moment -/
def doneBy (m : Int) (lg : List (Int × Int)) : Int := ((lg.filter fun p => decide (p.1 ≤ m)).map (·.2)).sum
section
variable {P : Program} {w : World} {K : PySem.W.Frag} {mg : Str → Option Value} {base : Heap}
def spCheckPresent (K : PySem.W.Frag) (C : Addr) : Sp := fun vs H Q E => ∃ (v u : V) (js : List PyData) (lg : List (Int × Int)), vs = [v, u] ∧ Dp K H v (.tuple js) ∧ js.all jobD = true ∧ js.length ≤ 900 ∧ Dp K H u (.tuple (lg.map pairP)) ∧ lg.length ≤ 50000 ∧ (overAt js 0 0 lg = none → ∀ H', Same H H' → Q .non H') ∧
  (∀ i : Nat, overAt js 0 0 lg = some i → ∀ (dx : Addr) (H' : Hp), Same H H' → H' dx = some (.xd [(("place" : Str), .int (i : Int))]) → E (.ref C) (some dx) H')
theorem scCheckPresent : FnScope ["jobs", "log", "finished", "place", "unit", "finishes"] ["jobs", "log"] (defScope sCheckPresent) := ⟨rfl, rfl, rfl, by decide +kernel, rfl, by decide +kernel, by decide +kernel⟩
theorem ok_checkPresent {C : Addr} (D : Df K mg "check_present" sCheckPresent ["jobs", "log"]) (B : Blt mg) (ER : ErC P w K mg base "NoLog" "place" C) (CP : Cl P w K mg base CX0 3 "count_present" ["jobs", "moment", "finished"] (spPresent K)) :
    Cl P w K mg base (L2.CX P w) 4 "check_present" ["jobs", "log"] (spCheckPresent K C) := by
  refine clX D scCheckPresent (fun vs H Q E h => ?_) (fun f cdv A outer s H vs Q E hr h => ?_)
  · obtain ⟨v, u, js, lg, rfl, _⟩ := h
    rfl
  · obtain ⟨v, u, js, lg, rfl, hd, okj, l9, hu, ll, kN, kE⟩ := h
    refine ⟨_, pss_cons (ps_set (i := 2) scCheckPresent.nd rfl (Or.inl rfl) pe_int)
      (pss_one (ps_for (passes_of rfl) rfl (pi_enumT B.enum (pa_cons (pv 1) pa_nil)) (pg_tup rfl (pgs_cons (pg_name (i := 3) scCheckPresent.nd rfl (.inl rfl)) (pgs_cons (pg_tup rfl (pgs_cons (pg_name (i := 4) scCheckPresent.nd rfl (.inl rfl)) (pgs_cons (pg_name (i := 5) scCheckPresent.nd rfl (.inl rfl)) pgs_nil))) pgs_nil)))
        (pss_cons (ps_if (pt_cmpR op_gt (pv 5) (pc CP hr (by decide) (pa_cons (pv 0) (pa_cons (pe_op op_sub (pv 4) pe_int) (pa_cons (pv 2) pa_nil)))) (nomark _)) (pss_one (ps_raiseE ER rfl hr (by decide) (takes_of rfl rfl rfl rfl) (pv 3))) pss_nil)
        (pss_one (ps_aug (i := 2) scCheckPresent.nd rfl (Or.inl rfl) (pv 5) ip_add))))), ?_⟩
    obtain ⟨pj, xs, rfl, qj, rj⟩ := dp_tuple hu
    obtain ⟨pv_, ys, rfl, qv, rv⟩ := dp_tuple hd
    have xl := dps_len rj
    rw [List.length_map] at xl
    refine ⟨_, rfl, pj, xs, rfl, qj, for_it (walk_enumT (K := K) (a := pj) (xs := xs)) (fun i σ G => ∃ (f : Int) (u3 u4 u5 : Option V), σ = [some (.ref pv_), some (.ref pj), some (.int f), u3, u4, u5] ∧ Same H G ∧ overAt js 0 0 lg = overAt js f i (lg.drop i))
      ⟨0, none, none, none, rfl, Same.refl H, rfl⟩ (fun i σ G _ ⟨_, _, _, _, _, s1, _⟩ => same_seqT s1 qj) ?_ ?_⟩
    · rintro i v1 σ G G2 hi ⟨f, u3, u4, u5, rfl, s1, eo⟩ ⟨TT, x1, y1, rfl, nT, rfl, ex, ey⟩
      cases ex
      obtain ⟨d1, hd1, dp1⟩ := dps_getV rj ey
      rw [List.getElem?_map] at hd1
      obtain ⟨p, hp, rfl⟩ := Option.map_eq_some_iff.mp hd1
      have s2 := s1.trans (same_new (o := .tup [V.int (i : Nat), y1]) nT)
      have dr : lg.drop i = p :: lg.drop (i + 1) := by
        obtain ⟨h1, h2⟩ := List.getElem?_eq_some_iff.mp hp
        rw [List.drop_eq_getElem_cons h1, h2]
      rw [dr] at eo
      replace eo : overAt js 0 0 lg = if presI js p.1 f < p.2 then some i else overAt js (f + p.2) (i + 1) (lg.drop (i + 1)) := eo
      obtain ⟨pp, xv, yv, rfl, qp, dx, dy⟩ := dp_two (dp_same s2 dp1)
      have exv := dp_int dx
      subst exv
      have eyv := dp_int dy
      subst eyv
      refine ⟨TT, _, rfl, SqT.of upd_same, rfl, _, _, rfl, _, _, rfl, ⟨pp, _, rfl, qp, rfl, _, _, rfl, _, _, rfl, rfl, rfl, ?_⟩⟩
      refine ⟨_, rfl, _, rfl, _, rfl, _, _, rfl, rfl, _, rfl, .ref pv_, js, p.1 - 1, f, rfl, dp_same s2 hd, okj, l9, fun G3 s3 => ?_⟩
      have s23 := s2.trans s3
      refine ⟨_, _, rfl, rfl, _, rfl, ?_⟩
      by_cases hc : presI js p.1 f < p.2
      · rw [decide_eq_true (show (countA js (p.1 - 1) f : Int) - f < p.2 from hc)]
        rw [if_pos hc] at eo
        refine iteT ⟨_, rfl, ?_⟩
        exact raise_go fun dx H5 s5 _ hx => kE i eo dx H5 (s23.trans s5) hx
      · rw [decide_eq_false (show ¬ (countA js (p.1 - 1) f : Int) - f < p.2 from hc)]
        rw [if_neg hc] at eo
        exact iteF ⟨_, rfl, _, rfl, _, _, rfl, rfl, f + p.2, _, _, _, rfl, s23, eo⟩
    · rintro σ G ⟨f, u3, u4, u5, rfl, s1, eo⟩
      rw [xl, List.drop_length] at eo
      exact kN eo G s1
def spPresentBy (K : PySem.W.Frag) : Sp := fun vs H Q _ => ∃ (v u : V) (js : List PyData) (lg : List (Int × Int)) (m : Int), vs = [v, u, .int m] ∧ Dp K H v (.tuple js) ∧ js.all jobD = true ∧ js.length ≤ 900 ∧ Dp K H u (.tuple (lg.map pairP)) ∧ lg.length ≤ 50000 ∧ ∀ H', Same H H' → Q (.int ((countA js m (doneBy m lg) : Nat) - doneBy m lg)) H'
theorem scPresentBy : FnScope ["jobs", "log", "moment", "unit", "finishes"] ["jobs", "log", "moment"] (defScope sPresentBy) := ⟨rfl, rfl, rfl, by decide +kernel, rfl, by decide +kernel, by decide +kernel⟩
theorem ok_presentBy (D : Df K mg "present_by" sPresentBy ["jobs", "log", "moment"]) (sm : mg "sum" = none) (CP : Cl P w K mg base CX0 3 "count_present" ["jobs", "moment", "finished"] (spPresent K)) : Cl P w K mg base CX0 4 "present_by" ["jobs", "log", "moment"] (spPresentBy K) := by
  refine cl0 D scPresentBy (fun vs H Q E h => ?_) (fun f cdv A outer s H vs Q E hr h => ?_)
  · obtain ⟨v, u, js, lg, m, rfl, _⟩ := h
    rfl
  · obtain ⟨v, u, js, lg, m, rfl, hd, okj, l9, hu, ll, k⟩ := h
    refine ⟨_, pss_one (ps_ret (pc CP hr (by decide) (pa_cons (pv 0) (pa_cons (pv 2) (pa_cons (pe_callB (cr_sum rfl) (by rfl) sm (by decide +kernel) (pa_cons
      (pe_lc (own := [("unit", 3), ("finishes", 4)]) (g := gTup K 2 (gCons (gName 3) (gCons (gName 4) gNil))) (tt := tTest (tOp (rI0 fun i j => .bl (decide (i ≤ j))) (tVar 3) (tVar 2))) (te := tVar 4) (by rfl) scPresentBy.nd (pi_tup (pv 1))
        (blkOk_by (own := [("unit", 3), ("finishes", 4)]) (N := ["jobs", "log", "moment", "unit", "finishes"]) (sc := defScope sPresentBy) (by decide +kernel))
        (fun _ _ _ _ _ => pg_tup rfl (pgs_cons (pg_name (i := 3) scPresentBy.nd rfl (Or.inl rfl)) (pgs_cons (pg_name (i := 4) scPresentBy.nd rfl (Or.inl rfl)) pgs_nil))) (fun _ _ _ _ _ => pts_one (pt_cmpR op_le (pv 3) (pv 2) (nomark _))) (fun _ _ _ _ _ => pv 4)) pa_nil)) pa_nil))))), ?_⟩
    obtain ⟨pl, xs, rfl, ql, rl⟩ := dp_tuple hu
    have xl := dps_len rl
    rw [List.length_map] at xl
    refine ⟨_, rfl, _, rfl, _, rfl, pl, rfl, ⟨_, ql⟩, fun D1 nD1 => ?_⟩
    refine lc_it (walk_tup (K := K) (a := pl) (xs := xs)) (fun n Hc => Same H Hc ∧ Hc D1 = some (.lst ((((lg.take n).filter fun p => decide (p.1 ≤ m)).map (·.2)).map V.int)))
      ⟨same_new nD1, upd_same⟩ (fun n Hc _ ⟨s3, _⟩ => same_seqT s3 ql) ?_ ?_
    · rintro n y1 Hc0 Hc hn ⟨s3, hD⟩ ⟨rfl, hy1⟩
      obtain ⟨d1, hd1, dd1⟩ := dps_getV rl hy1
      rw [List.getElem?_map] at hd1
      obtain ⟨p, hp, rfl⟩ := Option.map_eq_some_iff.mp hd1
      obtain ⟨pp, xv, yv, rfl, qp, dx, dy⟩ := dp_two (dp_same s3 dd1)
      have ex := dp_int dx
      subst ex
      have ey := dp_int dy
      subst ey
      have e2 : (lg.take (n + 1)).filter (fun p => decide (p.1 ≤ m)) = (lg.take n).filter (fun p => decide (p.1 ≤ m)) ++ (if p.1 ≤ m then [p] else []) := by
        rw [List.take_add_one, hp, List.filter_append]
        congr 1
        show [p].filter _ = _
        by_cases z : p.1 ≤ m
        · rw [if_pos z, List.filter_cons_of_pos (by exact decide_eq_true z), List.filter_nil]
        · rw [if_neg z, List.filter_cons_of_neg (by exact fun e => z (of_decide_eq_true e)), List.filter_nil]
      refine ⟨pp, _, rfl, qp, rfl, _, _, rfl, _, _, rfl, rfl, rfl, ?_⟩
      refine ⟨_, rfl, _, rfl, _, _, rfl, rfl, _, rfl, ?_⟩
      refine ite2 (fun ht => ?_) (fun ht => ?_)
      · refine ⟨_, rfl, _, hD, ?_, same_put s3 nD1, ?_⟩
        · rw [List.length_map, List.length_map]
          have z := List.length_filter_le (fun p : Int × Int => decide (p.1 ≤ m)) (lg.take n)
          rw [List.length_take] at z
          exact Nat.lt_of_le_of_lt (show _ ≤ 50000 by omega) (by decide)
        · rw [upd_same, e2, if_pos (of_decide_eq_true ht), List.map_append, List.map_append]
          rfl
      · rw [e2, if_neg (fun e => ht (decide_eq_true e)), List.append_nil]
        exact ⟨s3, hD⟩
    rintro Hd ⟨s3, hD⟩
    rw [xl, List.take_length] at hD
    refine ⟨D1, _, rfl, SqL.of hD, ?_⟩
    exact ⟨v, js, m, _, rfl, dp_same s3 hd, okj, l9, fun H2 s2 => k H2 (s3.trans s2)⟩
end
end Vk
/-! set(a list of ints), so that sorted may take it -/
namespace Vk
open PySem PySem.Spec PyProof PyProof.Rows L2 PySem.Calls
/-- a set without members, as it is made -/
abbrev fset (w : World) : Obj := { cls := .type "set", dict := none, data := .set #[] 0 (.fresh 0 0 (!w.params.followText "set-order")) }
section
variable {P : Program} {w : World} {B : Around} {XE : Value → Shared → Prop} {z : Shared}
set_option maxHeartbeats 8000000 in
theorem set_of_list {l : Addr} {xs : Array Value} (ns : List Int) {R : Value → Shared → Prop} (calm : B.handled = none) (il : z.heap.IsList l xs) (ai : IntsAre xs.toList ns) (few : ns.length + 1 < scanBound)
    (go : ∀ (g : Heap) (tk c : Nat), SetR w g z.heap.objs.size (fun j => decide (j ∈ ns)) c → c ≤ ns.length → (∀ b o, z.heap.get? b = some o → g.get? b = some o) → R (.ref z.heap.objs.size) { z with heap := g, toks := tk }) :
    wpAny (model P w) B (call (.type "set") [.ref l]) R XE z := by
  have size : xs.size = ns.length := (Array.length_toList (xs := xs)).symm.trans (IntsAre.length ai)
  obtain ⟨_, _, m0⟩ := PySem.F.called_set.mro
  have m1 := PySem.F.called_set.made
  have m2 := PySem.F.called_set.sub
  have m3 := PySem.F.called_set.notType
  have m4 := PySem.F.called_set.canCreate
  have m5 := PySem.F.typeCall_set_1 (.ref l)
  refine wpAny_call (codeAny_of_tree (show wpAny _ _ (callAny (.type "set") _) _ _ _ from wpAny_pure ⟨Code.quiet_builtin _ (by decide +kernel), codeAny_builtin PySem.F.entry_type_call ?_⟩))
  rw [Around.under_plain (weight_type_call_type "set" [.ref l] []) rfl]
  repeat (any_goals (first | assumption | wp_step))
  refine codeAny_mono (code_set_led1 (.ref l) (E := XE) (Q₁ := fun v y => v = .ref z.heap.objs.size ∧ y = { z with heap := z.heap.push (fset w) }) ⟨rfl, rfl⟩) fun res y hr => ?_
  match res, hr with
  | .error e, hr => exact hr
  | .ok (.ret v), hr =>
    obtain ⟨rfl, rfl⟩ := hr
    have at1 : (z.heap.push (fset w)).get? z.heap.objs.size = some (fset w) := Heap.get?_push_size _ rfl
    have ty1 : Shared.TypeIs { z with heap := z.heap.push (fset w) } (.ref z.heap.objs.size) "set" := ⟨_, at1, rfl⟩
    have n0 := PySem.F.called_set.init.lookup
    have n1 := PySem.F.called_set.init.bind (.ref z.heap.objs.size)
    repeat (any_goals (first | assumption | wp_step))
    refine codeAny_mono (codeAny_call_builtin (R := wants (fun r y => r = .none ∧ ∃ g tk c, y = { z with heap := g, toks := tk } ∧ SetR w g z.heap.objs.size (fun j => decide (j ∈ ns)) c ∧ c ≤ ns.length ∧ (∀ b o, z.heap.get? b = some o → g.get? b = some o)) XE) PySem.F.called_set.init.plain PySem.F.entry_set_init (check_set_init_1 ty1 ?_)) fun r2 y2 hr2 => ?_
    · obtain ⟨⟨oc, od, dat, sl⟩, hol, hcl, n, hdl⟩ := il
      dsimp only at hcl hdl
      subst hcl hdl
      have at2 : (z.heap.push (fset w)).get? l = some { cls := .type "list", dict := od, data := .seq xs n, slots := sl } := Heap.get?_push_of_some _ hol
      have k0 := PySem.F.sub_list_set
      have k1 := PySem.F.sub_list_frozenset
      have k2 : (Value.type "list" == Value.type "dict") = false := by decide
      have il1 : (z.heap.push (fset w)).IsList l xs := ⟨_, at2, rfl, n, rfl⟩
      have ls : l < z.heap.objs.size := Heap.lt_size hol
      have sz1 : (z.heap.push (fset w)).objs.size = z.heap.objs.size + 1 := Heap.size_push ..
      have ne1 : l ≠ (z.heap.push (fset w)).objs.size := by rw [sz1]; exact Nat.ne_of_lt (Nat.lt_succ_of_lt ls)
      have ne2 : z.heap.objs.size ∉ [(z.heap.push (fset w)).objs.size, l] := fun hm => by
        simp only [List.mem_cons, List.not_mem_nil, or_false, sz1] at hm
        exact hm.elim (Nat.ne_of_lt (Nat.lt_succ_self _)) (Nat.ne_of_gt ls)
      have each : ∀ (i : Nat) (v : Value), xs[i]? = some v → ∃ k t, ns[i]? = some k ∧ v = .int k t := fun i v hv => by
        have hi : i < ns.length := by rw [← size]; exact (Array.getElem?_eq_some_iff.mp hv).1
        obtain ⟨t, e⟩ := PyProof.Rows.IntsAre.int_at ai i v (by rw [Array.getElem?_toList]; exact hv)
        exact ⟨ns[i], t, List.getElem?_eq_getElem hi, by rw [e, List.getD_eq_getElem?_getD, List.getElem?_eq_getElem hi]; rfl⟩
      unfold Builtin.«set.__init__» noKeywords Builtin.Frozenset.updateFrom
      generalize walk : pyIter = PI
      wp_walk
      subst walk
      refine wpAny_pyIter_list il1 (wpAny_bind (wpAny_runValue ?_))
      refine set_update_ints ((Walks.list (show B.in1.in1.in1.handled = none by simp [calm]) _ l ne1 xs).toS) z.heap.objs.size ne2 ns size few each (xs.size - 0) 0 _ (by omega) (Nat.zero_le _) ⟨⟨_, Heap.get?_push_size _ rfl, rfl, rfl⟩, il1.push _⟩ ⟨0, Nat.le_refl 0, setR_new_at (Heap.get?_push_of_some _ at1)⟩ fun y c moved le made => ?_
      obtain ⟨g, gs, dr, tk, os⟩ := y
      obtain rfl : gs = z.gens := moved.gens
      obtain rfl : dr = z.drawn := moved.drawn
      obtain rfl : os = z.os := moved.os
      refine wpAny_pure (show wpAny _ _ (ret Value.none) _ _ _ from wpAny_pure ⟨rfl, g, tk, c, rfl, made, by omega, fun b o e => ?_⟩)
      have bs := Heap.lt_size e
      refine moved.heap b o (fun hm => ?_) (Heap.get?_push_of_some _ (Heap.get?_push_of_some _ e))
      simp only [List.mem_cons, List.not_mem_nil, or_false, sz1] at hm
      exact hm.elim (Nat.ne_of_lt bs) (Nat.ne_of_lt (Nat.lt_succ_of_lt bs))
    · match r2, hr2 with
      | .error e, hr2 => exact hr2
      | .ok (.ret v), hr2 =>
        obtain ⟨rfl, g, tk, c, rfl, made, le, keeps⟩ := hr2
        repeat (any_goals (first | assumption | wp_step))
        exact go g tk c made le keeps
      | .ok .next, hr2 => exact False.elim hr2
      | .ok .brk, hr2 => exact False.elim hr2
      | .ok .cont, hr2 => exact False.elim hr2
  | .ok .next, hr => exact False.elim hr
  | .ok .brk, hr => exact False.elim hr
  | .ok .cont, hr => exact False.elim hr
end
end Vk
/-! set(xs), sorted(set(xs)) of a list of fewer than 64 ints: what is promised of the result -/
namespace Vk
open PySem PySem.Spec PyProof.Rows L2
def rSetL (K : PySem.W.Frag) (w : World) : List V → Hp → VK → Prop := fun xs H Q => ∃ (l : Addr) (ns : List Int), xs = [.ref l] ∧ SqL K H l (ns.map V.int) ∧ ns.length < 64 ∧ ∀ (p : Addr) (c : Nat), H p = none → c ≤ ns.length → Q (.ref p) (upd H p (SetO w p (fun j => decide (j ∈ ns)) c))
theorem call_setL {X : Cx} (hc : X.calm = true) : CallR X (.type "set") (rSetL X.K X.w) := by
  rintro pins s σ H xs us Q I rv ⟨l, ns, rfl, sq, few, go⟩
  obtain ⟨its, rr, il, _⟩ := I.list sq
  rw [Vals.ref1 rv]
  refine set_of_list ns (I.ok.hd hc) il.isList rr.ints (Nat.lt_trans (Nat.succ_lt_succ few) (by decide)) fun g tk c made le keeps => ?_
  exact ⟨.ref _, upd H s.heap.objs.size (SetO X.w s.heap.objs.size (fun j => decide (j ∈ ns)) c), I.laid (t' := tk) keeps (Nat.le_refl _) (setO_new made), rfl, go _ c (I.hok.fresh (Nat.le_refl _)) le⟩
end Vk
namespace Vk
open PySem PySem.Spec PyProof.Rows L2 GxR
/-- the moment of one who comes at a moment -/
def momOf : PyData → Option Int
  | .tuple [.str k, .int t] => if k = "at" then some t else none
  | _ => none
/-- the moments before the last unit in which something may change -/
def momsL (js : List PyData) (lg : List (Int × Int)) (last : Int) : List Int := ((js.map arrD).filterMap momOf ++ lg.map (·.1)).filter fun m => decide (m < last)
def lastU (lg : List (Int × Int)) : Int := (lg.getLast?.getD (0, 0)).1
def pcs (js : List PyData) (lg : List (Int × Int)) (last : Int) (ns : List Int) : List Trp := List.zipWith (fun s e => (s + 1, e, (countA js s (doneBy s lg) : Int) - doneBy s lg)) ns (ns.drop 1 ++ [last])
section
variable {P : Program} {w : World} {K : PySem.W.Frag} {mg : Str → Option Value} {base : Heap}
def spPresence (K : PySem.W.Frag) (T C : Addr) : Sp := fun vs H Q E => ∃ (v u : V) (js : List PyData) (d : PyData), vs = [v, u] ∧ Dp K H v (.tuple js) ∧ js.all jobD = true ∧ js.length ≤ 20 ∧ jobsPlace (.tuple js) = none ∧ TabG H T ∧ Dp K H u d ∧ lenLog d ≤ 20 ∧
  (∀ lg, logPlace d = none → d = .tuple (lg.map pairP) → overAt js 0 0 lg = none → (lg = [] → ∀ v' H', Same H H' → Dp K H' v' (.tuple []) → Q v' H') ∧
    (lg ≠ [] → ∀ (ns : List Int) v' H', ns.Pairwise (· < ·) → (∀ k : Int, k ∈ ns ↔ k ∈ 0 :: momsL js lg (lastU lg)) → Same H H' → Dp K H' v' (.tuple ((joinL (pcs js lg (lastU lg) ns)).map trD)) → Q v' H')) ∧
  (∀ i : Int, (logPlace d = some i ∨ ∃ (lg : List (Int × Int)) (j : Nat), logPlace d = none ∧ d = .tuple (lg.map pairP) ∧ overAt js 0 0 lg = some j ∧ i = j) → ∀ (dx : Addr) (H' : Hp), Same H H' → H' dx = some (.xd [(("place" : Str), .int i)]) → E (.ref C) (some dx) H')
theorem scPresence : FnScope ["jobs", "log", "last", "moments", "starts", "ends", "job", "unit", "_", "moment", "start", "end"] ["jobs", "log"] (defScope sPresence) := ⟨rfl, rfl, rfl, by decide +kernel, rfl, by decide +kernel, by decide +kernel⟩
theorem ok_presence {T C C0 : Addr} (D : Df K mg "presence" sPresence ["jobs", "log"]) (B : Blt mg) (st : mg "set" = none) (so : mg "sorted" = none) (zp : mg "zip" = none) (CJ : Cl P w K mg base (L2.CX P w) 5 "check_jobs" ["jobs"] (spCheck K T C0)) (CL : Cl P w K mg base (L2.CX P w) 3 "check_log" ["log"] (spCheckLog K C)) (CP : Cl P w K mg base (L2.CX P w) 4 "check_present" ["jobs", "log"] (spCheckPresent K C))
    (PB : Cl P w K mg base CX0 4 "present_by" ["jobs", "log", "moment"] (spPresentBy K)) (JO : Cl P w K mg base CX0 1 "joined" ["pieces"] (spJoined K)) : Cl P w K mg base (L2.CX P w) 6 "presence" ["jobs", "log"] (spPresence K T C) := by
  refine clX D scPresence (fun vs H Q E h => ?_) (fun f cdv A outer s H vs Q E hr h => ?_)
  · obtain ⟨v, u, js, d, rfl, _⟩ := h
    rfl
  · obtain ⟨v, u, js, d, rfl, hd, okj, l20, jp, tg, hu, ll, kN, kE⟩ := h
    obtain ⟨fJ, fdJ, mJ, kpJ, bJ, FJ⟩ := CJ.ex
    obtain ⟨fL, fdL, mL, kpL, bL, FL⟩ := CL.ex
    obtain ⟨fC, fdC, mC, kpC, bC, FC⟩ := CP.ex
    refine ⟨_, pss_cons (ps_expr (pe_call (E := E) FJ hr rfl mJ kpJ bJ .nil (passes_call (W := fun cls d _ H => E cls d H) (takes_of rfl rfl rfl rfl) (fun _ _ _ _ h => h)) (pa_cons (pv 0) pa_nil)))
      (pss_cons (ps_expr (pe_call (E := E) FL (hr.mono (by decide)) rfl mL kpL bL .nil (passes_call (W := fun cls d _ H => E cls d H) (takes_of rfl rfl rfl rfl) (fun _ _ _ _ h => h)) (pa_cons (pv 1) pa_nil)))
      (pss_cons (ps_expr (pe_call (E := E) FC (hr.mono (by decide)) rfl mC kpC bC .nil (passes_call (W := fun cls d _ H => E cls d H) (takes_of rfl rfl rfl rfl) (fun _ _ _ _ h => h)) (pa_cons (pv 0) (pa_cons (pv 1) pa_nil))))
      (pss_cons (ps_if (pt_not (pt_truth (pv 1) (by intro _; rfl))) (pss_one (ps_ret (pe_tup pa_nil))) pss_nil)
      (pss_cons (ps_set (i := 2) scPresence.nd rfl (Or.inr rfl) (pe_ix ix_tup (pe_ix ix_tup (pv 1) (pe_un un_neg pe_int) (fun _ _ => rfl)) pe_int (fun _ _ => rfl)))
      (pss_cons (ps_set (i := 3) scPresence.nd rfl (Or.inl rfl) (pe_op op_cat
        (pe_lc (own := [("job", 6)]) (g := gName 6) (tt := tTest (tOp rEq (tOp (rIxT K) (tOp (rIxT K) (tVar 6) (tC (.int 1))) (tC (.int 0))) (tC (.str "at")))) (te := tOp (rIxT K) (tOp (rIxT K) (tVar 6) (tC (.int 1))) (tC (.int 1))) (by rfl) scPresence.nd (pi_tup (pv 0))
          (blkOk_by (own := [("job", 6)]) (N := ["jobs", "log", "last", "moments", "starts", "ends", "job", "unit", "_", "moment", "start", "end"]) (sc := defScope sPresence) (by decide +kernel))
          (fun _ _ _ _ _ => pg_name (i := 6) scPresence.nd rfl (Or.inl rfl)) (fun _ _ _ _ _ => pts_one (pt_cmpR op_eq (pe_ix ix_tup (pe_ix ix_tup (pv 6) pe_int (fun _ _ => rfl)) pe_int (fun _ _ => rfl)) pe_str (nomark _))) (fun _ _ _ _ _ => pe_ix ix_tup (pe_ix ix_tup (pv 6) pe_int (fun _ _ => rfl)) pe_int (fun _ _ => rfl)))
        (pe_lc (own := [("unit", 7), ("_", 8)]) (g := gTup K 2 (gCons (gName 7) (gCons (gName 8) gNil))) (tt := tYes) (te := tVar 7) (by rfl) scPresence.nd (pi_tup (pv 1))
          (blkOk_by (own := [("unit", 7), ("_", 8)]) (N := ["jobs", "log", "last", "moments", "starts", "ends", "job", "unit", "_", "moment", "start", "end"]) (sc := defScope sPresence) (by decide +kernel))
          (fun _ _ _ _ _ => pg_tup rfl (pgs_cons (pg_name (i := 7) scPresence.nd rfl (Or.inl rfl)) (pgs_cons (pg_name (i := 8) scPresence.nd rfl (Or.inl rfl)) pgs_nil))) (fun _ _ _ _ _ => pts_nil) (fun _ _ _ _ _ => pv 7))))
      (pss_cons (ps_set (i := 4) scPresence.nd rfl (Or.inl rfl) (pe_callB (cr_sortedSet rfl) (by rfl) so (by decide +kernel) (pa_cons (pe_callTy (call_setL rfl) (by rfl) st (by decide +kernel) (pa_cons (pe_op op_cat (pe_lst (pa_cons pe_int pa_nil))
        (pe_lc (own := [("moment", 9)]) (g := gName 9) (tt := tTest (tOp (rI0 fun i j => .bl (decide (i < j))) (tVar 9) (tVar 2))) (te := tVar 9) (by rfl) scPresence.nd (pi_list (pv 3))
          (blkOk_by (own := [("moment", 9)]) (N := ["jobs", "log", "last", "moments", "starts", "ends", "job", "unit", "_", "moment", "start", "end"]) (sc := defScope sPresence) (by decide +kernel))
          (fun _ _ _ _ _ => pg_name (i := 9) scPresence.nd rfl (Or.inl rfl)) (fun _ _ _ _ _ => pts_one (pt_cmpR op_lt (pv 9) (pv 2) (nomark _))) (fun _ _ _ _ _ => pv 9))) pa_nil)) pa_nil)))
      (pss_cons (ps_set (i := 5) scPresence.nd rfl (Or.inl rfl) (pe_op op_cat (pe_slice sl_list (pv 4) (po_some pe_int) po_none) (pe_lst (pa_cons (pv 2) pa_nil))))
      (pss_one (ps_ret (pc JO hr (by decide) (pa_cons
        (pe_lc (own := [("start", 10), ("end", 11)]) (g := gTup K 2 (gCons (gName 10) (gCons (gName 11) gNil))) (tt := tYes) (te := tTup (tCons (tOp (rI0 fun i j => .int (i + j)) (tVar 10) (tC (.int 1))) (tCons (tVar 11) (tCons (tCal (spPresentBy K) (tCons (tVar 0) (tCons (tVar 1) (tCons (tVar 10) tNil)))) tNil)))) (by rfl) scPresence.nd (pi_zip rfl zp (pa_cons (pv 4) (pa_cons (pv 5) pa_nil)))
          (blkOk_by (own := [("start", 10), ("end", 11)]) (N := ["jobs", "log", "last", "moments", "starts", "ends", "job", "unit", "_", "moment", "start", "end"]) (sc := defScope sPresence) (by decide +kernel))
          (fun _ _ _ _ _ => pg_tup rfl (pgs_cons (pg_name (i := 10) scPresence.nd rfl (Or.inl rfl)) (pgs_cons (pg_name (i := 11) scPresence.nd rfl (Or.inl rfl)) pgs_nil))) (fun _ _ _ _ _ => pts_nil)
          (fun _ _ _ _ _ => pe_tup (pa_cons (pe_op op_add (pv 10) pe_int) (pa_cons (pv 11) (pa_cons (pc PB hr (by decide) (pa_cons (pv 0) (pa_cons (pv 1) (pa_cons (pv 10) pa_nil)))) pa_nil))))) pa_nil))))))))))), ?_⟩
    have nj : niceJobs (.tuple js) := ⟨fun d hd => nice_of (List.all_eq_true.mp okj d hd), by omega⟩
    refine ⟨_, rfl, v, .tuple js, rfl, hd, nj, tg, fun _ H1 s1 => ?_, fun i e => absurd (jp.symm.trans e) (fun z => nomatch z)⟩
    refine ⟨_, rfl, u, d, rfl, dp_same s1 hu, by omega, fun ln H2 s2 => ?_, fun i e dx H2 s2 hx => kE i (.inl e) dx H2 (s1.trans s2) hx⟩
    obtain ⟨lg, rfl, asc⟩ := log_pairs ln
    have ll2 : lg.length ≤ 20 := by
      have z : (lg.map pairP).length ≤ 20 := ll
      rw [List.length_map] at z
      exact z
    have s12 := s1.trans s2
    refine ⟨_, rfl, _, rfl, v, u, js, lg, rfl, dp_same s12 hd, okj, by omega, dp_same s12 hu, by omega, fun eo H3 s3 => ?_, fun j e dx H3 s3 hx => kE j (.inr ⟨lg, j, ln, rfl, e, rfl⟩) dx H3 (s12.trans s3) hx⟩
    obtain ⟨k1, k2⟩ := kN lg ln rfl eo
    have s13 := s12.trans s3
    obtain ⟨pl, xs, rfl, ql, rl⟩ := dp_tuple (dp_same s13 hu)
    obtain ⟨pj, ys, rfl, qj, rj⟩ := dp_tuple (dp_same s13 hd)
    have xl := dps_len rl
    rw [List.length_map] at xl
    have yl := dps_len rj
    refine ⟨_, rfl, _, .inr (.inl ⟨xs, ql, rfl⟩), ?_⟩
    cases he : xs.isEmpty with
    | true =>
      have e0 : lg = [] := List.eq_nil_of_length_eq_zero (by rw [← xl, List.isEmpty_iff.mp he]; rfl)
      refine iteT ⟨(by show 0 ≤ sizeLine; decide), fun t nt => ?_⟩
      exact k1 e0 _ _ (s13.trans (same_new nt)) (.tup (SqT.of upd_same) .nil)
    | false =>
      refine iteF ?_
      have xpos : 0 < xs.length := by
        cases xs with
        | nil => cases he
        | cons x r => exact Nat.succ_pos _
      have ne0 : lg ≠ [] := fun e => by rw [e] at xl; rw [xl] at xpos; cases xpos
      -- last
      have hz : xs[xs.length - 1]? = some xs[xs.length - 1] := List.getElem?_eq_getElem (by omega)
      obtain ⟨dl, hdl, ddl⟩ := dps_getV rl hz
      generalize xs[xs.length - 1] = lv at hz ddl
      rw [List.getElem?_map] at hdl
      obtain ⟨q, hq, rfl⟩ := Option.map_eq_some_iff.mp hdl
      have eu : lastU lg = q.1 := by
        unfold lastU
        rw [List.getLast?_eq_getElem?, ← xl, hq]
        rfl
      rw [eu] at k2
      obtain ⟨pq, xq, yq, rfl, qq, dxq, _⟩ := dp_two ddl
      have exq := dp_int dxq
      subst exq
      refine ⟨_, rfl, _, rfl, pl, xs, _, _, rfl, rfl, ql, by rw [atI_last xpos]; exact hz, pq, _, _, _, rfl, rfl, qq, rfl, ?_⟩
      -- moments
      refine ⟨_, rfl, pj, rfl, ⟨_, qj⟩, fun D1 nD1 => ?_⟩
      refine lc_it (walk_tup (K := K) (a := pj) (xs := ys)) (fun m Hc => Same H3 Hc ∧ Hc D1 = some (.lst ((((js.map arrD).take m).filterMap momOf).map V.int)))
        ⟨same_new nD1, upd_same⟩ (fun m Hc _ ⟨t3, _⟩ => same_seqT t3 qj) ?_ ?_
      · rintro m y1 Hc0 Hc hm ⟨t3, hD⟩ ⟨rfl, hy1⟩
        obtain ⟨e1, he1, de1⟩ := dps_getV rj hy1
        obtain ⟨nm, k1', t1, x1, rfl, _, hk1⟩ := job_parts (List.all_eq_true.mp okj e1 (List.mem_of_getElem? he1))
        obtain ⟨p1, v1, v2, v3, rfl, q1, dv1, dv2, dv3⟩ := dp_three (dp_same t3 de1)
        obtain ⟨pa, kv, tv, rfl, qa, dk, dt⟩ := dp_two dv2
        have ek := dp_str dk
        subst ek
        have et := dp_int dt
        subst et
        have e2 : ((js.map arrD).take (m + 1)).filterMap momOf = ((js.map arrD).take m).filterMap momOf ++ (if k1' = "at" then [t1] else []) := by
          rw [List.take_add_one, List.getElem?_map, he1]
          show ((js.map arrD).take m ++ [PyData.tuple [.str k1', .int t1]]).filterMap momOf = _
          rw [List.filterMap_append]
          congr 1
          rw [List.filterMap_cons, List.filterMap_nil, show momOf (.tuple [.str k1', .int t1]) = (if k1' = "at" then some t1 else none) from rfl]
          by_cases z : k1' = "at"
          · rw [if_pos z, if_pos z]
          · rw [if_neg z, if_neg z]
        have small : (((js.map arrD).take m).filterMap momOf).length ≤ 20 := by
          have z := List.length_filterMap_le momOf ((js.map arrD).take m)
          rw [List.length_take, List.length_map] at z
          omega
        refine ⟨rfl, ?_⟩
        refine ⟨_, rfl, p1, _, _, _, rfl, rfl, q1, rfl, pa, _, _, _, rfl, rfl, qa, rfl, rfl, _, rfl, ?_⟩
        rw [eq_S (s := ("at" : Str)) dk]
        refine ite2 (fun hz => ?_) (fun hz => ?_)
        · have hk : k1' = "at" := hk1.resolve_right fun e => absurd hz (by rw [e]; decide +kernel)
          refine ⟨_, rfl, p1, _, _, _, rfl, rfl, q1, rfl, pa, _, _, _, rfl, rfl, qa, rfl, _, hD, ?_, same_put t3 nD1, ?_⟩
          · rw [List.length_map]
            exact Nat.lt_of_le_of_lt small (by decide)
          · rw [upd_same, e2, if_pos hk, List.map_append]
            rfl
        · rw [e2, if_neg (fun e => hz (by rw [e]; rfl)), List.append_nil]
          exact ⟨t3, hD⟩
      rintro G1 ⟨t1, hD1⟩
      rw [yl, ← List.length_map (f := arrD), List.take_length] at hD1
      have ql1 := same_seqT t1 ql
      have rl1 := dps_same t1 rl
      refine ⟨_, rfl, pl, rfl, ⟨_, ql1⟩, fun D2 nD2 => ?_⟩
      refine lc_it (walk_tup (K := K) (a := pl) (xs := xs)) (fun m Hc => Same G1 Hc ∧ Hc D2 = some (.lst (((lg.take m).map (·.1)).map V.int)))
        ⟨same_new nD2, upd_same⟩ (fun m Hc _ ⟨t3, _⟩ => same_seqT t3 ql1) ?_ ?_
      · rintro m y1 Hc0 Hc hm ⟨t3, hD⟩ ⟨rfl, hy1⟩
        obtain ⟨d1, hd1, dd1⟩ := dps_getV rl1 hy1
        rw [List.getElem?_map] at hd1
        obtain ⟨p, hp, rfl⟩ := Option.map_eq_some_iff.mp hd1
        obtain ⟨pp, xv, yv, rfl, qp, dx, dy⟩ := dp_two (dp_same t3 dd1)
        have ex := dp_int dx
        subst ex
        refine ⟨pp, _, rfl, qp, rfl, _, _, rfl, _, _, rfl, rfl, rfl, ?_⟩
        refine ⟨_, rfl, _, hD, ?_, same_put t3 nD2, ?_⟩
        · rw [List.length_map, List.length_map, List.length_take]
          exact Nat.lt_of_le_of_lt (show min m lg.length ≤ 20 by omega) (by decide)
        · rw [upd_same, List.take_add_one, hp]
          show some (HO.lst _) = some (HO.lst (((lg.take m ++ [p]).map (·.1)).map V.int))
          rw [List.map_append, List.map_append]
          rfl
      rintro G2 ⟨t2, hD2⟩
      rw [xl, List.take_length] at hD2
      have la : ((js.map arrD).filterMap momOf).length ≤ 20 := by
        have z := List.length_filterMap_le momOf (js.map arrD)
        rw [List.length_map] at z
        omega
      refine ⟨D1, D2, _, _, rfl, rfl, t2.at hD1, hD2, ?_, fun p3 n3 => ?_⟩
      · rw [List.length_map, List.length_map, List.length_map]
        exact Nat.le_trans (show _ ≤ 40 by omega) (by decide)
      have g3 := same_new (o := .lst (((js.map arrD).filterMap momOf).map V.int ++ (lg.map (·.1)).map V.int)) n3
      have h3 := new_at g3
      have t123 := (t1.trans t2).trans g3
      generalize upd G2 p3 (.lst (((js.map arrD).filterMap momOf).map V.int ++ (lg.map (·.1)).map V.int)) = G3 at h3 t123 ⊢
      rw [← List.map_append] at h3
      have lm : ((js.map arrD).filterMap momOf ++ lg.map (·.1)).length ≤ 40 := by
        rw [List.length_append, List.length_map]
        omega
      have em : ((js.map arrD).filterMap momOf ++ lg.map (·.1)).filter (fun m => decide (m < q.1)) = momsL js lg q.1 := rfl
      generalize (js.map arrD).filterMap momOf ++ lg.map (·.1) = ms at h3 lm em
      -- starts
      refine ⟨(by show 1 ≤ sizeLine; decide), fun q0 nq0 => ?_⟩
      have g4 := same_new (o := .lst [.int 0]) nq0
      have hq0 := new_at g4
      generalize upd G3 q0 (.lst [.int 0]) = G4 at g4 hq0 ⊢
      have h34 := g4.at h3
      refine ⟨_, rfl, p3, rfl, ⟨_, SqL.of h34⟩, fun D4 nD4 => ?_⟩
      refine lc_it (walk_list (K := K) (a := p3) (xs := ms.map V.int)) (fun m Hc => Same G4 Hc ∧ Hc D4 = some (.lst (((ms.take m).filter (fun m => decide (m < q.1))).map V.int)))
        ⟨same_new nD4, upd_same⟩ (fun m Hc _ ⟨t3, _⟩ => SqL.of (t3.at h34)) ?_ ?_
      · rintro m y1 Hc0 Hc hm ⟨t3, hD⟩ ⟨rfl, hy1⟩
        rw [List.getElem?_map] at hy1
        obtain ⟨z1, hz1, rfl⟩ := Option.map_eq_some_iff.mp hy1
        have e2 : (ms.take (m + 1)).filter (fun m => decide (m < q.1)) = (ms.take m).filter (fun m => decide (m < q.1)) ++ (if z1 < q.1 then [z1] else []) := by
          rw [List.take_add_one, hz1, List.filter_append]
          congr 1
          show [z1].filter _ = _
          by_cases z : z1 < q.1
          · rw [if_pos z, List.filter_cons_of_pos (by exact decide_eq_true z), List.filter_nil]
          · rw [if_neg z, List.filter_cons_of_neg (by exact fun e => z (of_decide_eq_true e)), List.filter_nil]
        refine ⟨rfl, ?_⟩
        refine ⟨_, rfl, _, rfl, _, _, rfl, rfl, _, rfl, ?_⟩
        refine ite2 (fun ht => ?_) (fun ht => ?_)
        · refine ⟨_, rfl, _, hD, ?_, same_put t3 nD4, ?_⟩
          · rw [List.length_map]
            have z := List.length_filter_le (fun m => decide (m < q.1)) (ms.take m)
            rw [List.length_take] at z
            exact Nat.lt_of_le_of_lt (show _ ≤ 40 by omega) (by decide)
          · rw [upd_same, e2, if_pos (of_decide_eq_true ht), List.map_append]
            rfl
        · rw [e2, if_neg (fun e => ht (decide_eq_true e)), List.append_nil]
          exact ⟨t3, hD⟩
      rintro G5 ⟨t5, hD4⟩
      rw [List.length_map, List.take_length, em] at hD4
      have lf : (momsL js lg q.1).length ≤ 40 := by
        rw [← em]
        exact Nat.le_trans (List.length_filter_le ..) lm
      generalize momsL js lg q.1 = fl at hD4 lf k2
      refine ⟨q0, D4, _, _, rfl, rfl, t5.at hq0, hD4, ?_, fun p5 n5 => ?_⟩
      · rw [List.length_map]
        exact Nat.le_trans (show 1 + fl.length ≤ 41 by omega) (by decide)
      have g5 := same_new (o := .lst ([V.int 0] ++ fl.map V.int)) n5
      refine ⟨p5, 0 :: fl, rfl, SqL.of upd_same, by rw [List.length_cons]; omega, fun p c np le => ?_⟩
      rw [List.length_cons] at le
      have g6 := same_new (o := SetO w p (fun j => decide (j ∈ 0 :: fl)) c) np
      refine ⟨p, _, c, rfl, upd_same, by omega, fun ns p6 pw mem ln6 n6 => ?_⟩
      have g7 := same_new (o := .lst (ns.map V.int)) n6
      have h6 := new_at g7
      have t17 := (((t123.trans g4).trans t5).trans ((g5.trans g6).trans g7))
      generalize upd _ p6 (.lst (ns.map V.int)) = G7 at h6 t17 ⊢
      clear g5 g6 g7 t5 g4 t123 n5 np n6
      have mem' : ∀ k : Int, k ∈ ns ↔ k ∈ 0 :: fl := fun k => (mem k).trans decide_eq_true_iff
      have npos : 1 ≤ ns.length := List.length_pos_of_mem ((mem' 0).mpr (by simp))
      have nl : ns.length ≤ 41 := by omega
      -- ends
      refine ⟨_, rfl, _, rfl, ?_⟩
      dsimp only [tNoPart]
      refine ⟨p6, _, rfl, SqL.of h6, fun p7 n7 => ?_⟩
      have ec : cutV (ns.map V.int) (some 1) none = (ns.drop 1).map V.int := by
        unfold cutV
        have e1 : HT.sIx (ns.map V.int).length 0 (some ((1 : Nat) : Int)) = 1 := by rw [HT.sIx_nat, List.length_map]; omega
        have e2 : HT.sIx (ns.map V.int).length (ns.map V.int).length none = (ns.map V.int).length := rfl
        rw [show (some (1 : Int)) = some ((1 : Nat) : Int) from rfl, e1, e2, List.map_drop]
        exact List.take_of_length_le (by rw [List.length_drop]; exact Nat.le_refl _)
      rw [ec]
      have g8 := same_new (o := .lst ((ns.drop 1).map V.int)) n7
      refine ⟨_, rfl, (by show 1 ≤ sizeLine; decide), fun p8 n8 => ?_⟩
      have g9 := same_new (o := .lst [.int q.1]) n8
      refine ⟨p7, p8, _, _, rfl, rfl, g9.at upd_same, upd_same, ?_, fun p9 n9 => ?_⟩
      · rw [List.length_map, List.length_drop]
        exact Nat.le_trans (show ns.length - 1 + 1 ≤ 50 by omega) (by decide)
      have g10 := same_new (o := .lst ((ns.drop 1).map V.int ++ [V.int q.1])) n9
      have h9 := new_at g10
      have h69 := g10.at (g9.at (g8.at h6))
      have tA := t17.trans ((g8.trans g9).trans g10)
      generalize upd _ p9 (.lst ((ns.drop 1).map V.int ++ [V.int q.1])) = G9 at h9 h69 tA ⊢
      rw [show (ns.drop 1).map V.int ++ [V.int q.1] = (ns.drop 1 ++ [q.1]).map V.int by rw [List.map_append]; rfl] at h9
      have sA := s13.trans tA
      have le9 : (ns.drop 1 ++ [q.1]).length = ns.length := by
        rw [List.length_append, List.length_drop, List.length_singleton]
        omega
      refine ⟨_, rfl, _, rfl, p6, p9, _, _, rfl, SqL.of h69, SqL.of h9, fun D nD => ?_⟩
      refine lc_it (walk_zip (K := K) (a := p6) (b := p9) (xs := ns.map V.int) (ys := (ns.drop 1 ++ [q.1]).map V.int) (n := ns.length) (by rw [List.length_map, List.length_map, le9]; omega))
        (fun m Hc => ∃ acc, Same G9 (Off D Hc) ∧ Hc D = some (.lst acc) ∧ DpAll K (Off D Hc) acc (((pcs js lg q.1 ns).take m).map trD))
        ⟨[], by rw [off_upd, off_none nD]; exact Same.refl G9, upd_same, .nil⟩ (fun m Hc _ ⟨acc, t3, _⟩ => ⟨SqL.of ((t3.trans (off_sub D Hc)).at h69), SqL.of ((t3.trans (off_sub D Hc)).at h9)⟩) ?_ ?_
      · rintro m x Hc Hc2 hm ⟨acc, t3, hD, dac⟩ ⟨TT, xv, yv, rfl, nT, rfl, ex, ey⟩
        dsimp only at ex ey
        rw [List.getElem?_map] at ex ey
        obtain ⟨xi, hx, rfl⟩ := Option.map_eq_some_iff.mp ex
        obtain ⟨yi, hy, rfl⟩ := Option.map_eq_some_iff.mp ey
        have gT := same_new (o := .tup [V.int xi, V.int yi]) nT
        have al := dps_len dac
        rw [List.length_map, List.length_take] at al
        have sT := (tA.trans (t3.trans (off_sub D Hc))).trans gT
        have TD : TT ≠ D := fun e => by rw [e, hD] at nT; cases nT
        refine ⟨TT, _, rfl, SqT.of upd_same, rfl, _, _, rfl, _, _, rfl, rfl, rfl, ?_⟩
        refine ⟨_, rfl, _, _, rfl, rfl, _, rfl, _, rfl, _, rfl, _, rfl, .ref pj, .ref pl, js, lg, xi, rfl, dp_same sT (.tup qj rj), okj, by omega, dp_same sT (.tup ql rl), by omega, fun G10 s10 => ?_⟩
        have hD' := s10.at (gT.at hD)
        refine ⟨(by show 3 ≤ sizeLine; decide), fun t nt => ?_⟩
        have stt := same_new (o := .tup [.int (xi + 1), .int yi, .int ((countA js xi (doneBy xi lg) : Nat) - doneBy xi lg)]) nt
        have tD : t ≠ D := fun e => by rw [e, hD'] at nt; cases nt
        have sAll := (gT.trans s10).trans stt
        refine ⟨acc, stt.at hD', Nat.lt_of_le_of_lt (show acc.length ≤ 900 by omega) (by decide), acc ++ [.ref t], ?_, upd_same, ?_⟩
        · rw [off_upd]
          exact t3.trans (off_mono sAll)
        · have e2 : (pcs js lg q.1 ns).take (m + 1) = (pcs js lg q.1 ns).take m ++ [(xi + 1, yi, (countA js xi (doneBy xi lg) : Int) - doneBy xi lg)] := by
            rw [List.take_add_one]
            congr 1
            show (List.zipWith _ ns (ns.drop 1 ++ [q.1]))[m]?.toList = _
            rw [List.getElem?_zipWith, hx, hy]
            rfl
          rw [off_upd, e2, List.map_append]
          refine dps_app (dps_same (off_mono sAll) dac) (.cons (.tup (a := t) (SqT.of ?_) (.cons (.int _) (.cons (.int _) (.cons (.int _) .nil)))) .nil)
          rw [off_ne tD]
          exact upd_same
      rintro Gz ⟨acc, t3, hD, dac⟩
      have lp : (pcs js lg q.1 ns).length = ns.length := by
        unfold pcs
        rw [List.length_zipWith, le9]
        omega
      rw [← lp, List.take_length] at dac
      have tz := t3.trans (off_sub D Gz)
      refine ⟨.ref D, pcs js lg q.1 ns, rfl, .lst (SqL.of hD) (dps_same (off_sub D Gz) dac), by omega, fun v' H' s' dv' => ?_⟩
      exact k2 ne0 ns v' H' pw mem' ((sA.trans tz).trans s') dv'
end
end Vk
namespace Vk
open PySem PySem.Spec PyProof.Rows L2 GxR
/-- a stretch and its next part with the same content -/
theorem joinS_two {acc : List Trp} {a b b' e c : Int} : joinS (joinS acc (a, b, c)) (b', e, c) = joinS acc (a, e, c) := by
  have last : ∀ (xs : List Trp) (x y : Int), joinS (xs ++ [(x, y, c)]) (b', e, c) = xs ++ [(x, e, c)] := fun xs x y => by
    unfold joinS
    rw [List.getLast?_append, List.getLast?_singleton]
    show (if c = c then (xs ++ [(x, y, c)]).dropLast ++ [(x, e, c)] else _) = _
    rw [if_pos rfl, List.dropLast_concat]
  cases h : acc.getLast? with
  | none =>
    have e1 : ∀ p, joinS acc p = acc ++ [p] := fun p => by
      unfold joinS
      rw [h]
    rw [e1, e1, last]
  | some q =>
    obtain ⟨q1, q2, q3⟩ := q
    have e1 : ∀ (x y : Int), joinS acc (x, y, c) = if q3 = c then acc.dropLast ++ [(q1, y, c)] else acc ++ [(x, y, c)] := fun x y => by
      unfold joinS
      rw [h]
    rw [e1, e1]
    by_cases z : q3 = c
    · rw [if_pos z, if_pos z, last]
    · rw [if_neg z, if_neg z, last]
/-- the units behind s, one by one -/
def unitsT (s c : Int) (n : Nat) : List Trp := (List.range n).map fun (i : Nat) => (s + 1 + (i : Int), s + 1 + (i : Int), c)
theorem join_units {acc : List Trp} {s c : Int} : ∀ n : Nat, (unitsT s c (n + 1)).foldl joinS acc = joinS acc (s + 1, s + 1 + (n : Int), c)
  | 0 => by
    show joinS acc (s + 1 + ((0 : Nat) : Int), s + 1 + ((0 : Nat) : Int), c) = _
    rw [show s + 1 + ((0 : Nat) : Int) = s + 1 by omega]
  | n + 1 => by
    have e : unitsT s c (n + 1 + 1) = unitsT s c (n + 1) ++ [(s + 1 + ((n + 1 : Nat) : Int), s + 1 + ((n + 1 : Nat) : Int), c)] := by
      unfold unitsT
      rw [List.range_succ, List.map_append]
      rfl
    rw [e, List.foldl_append, join_units n]
    exact joinS_two
end Vk
namespace Vk
open PySem PySem.Spec PyProof.Rows L2 GxR
theorem run_min (js : List PyData) (u f c : Int) : (if presI js u f < c then presI js u f else c) = runI js u f c := by
  unfold runI
  split <;> split <;> omega
section
variable {P : Program} {w : World} {K : PySem.W.Frag} {mg : Str → Option Value} {base : Heap}
def spPresL (K : PySem.W.Frag) : Sp := fun vs H Q _ => ∃ (v : V) (js : List PyData) (u f : Int), vs = [v, .int u, .int f] ∧ Dp K H v (.tuple js) ∧ js.all jobD = true ∧ js.length ≤ 900 ∧ ∀ H', Same H H' → Q (.int (presI js u f)) H'
theorem scPresL : FnScope ["jobs", "unit", "finished", "here", "name", "arrival", "door"] ["jobs", "unit", "finished"] (defScope sPresentL) := ⟨rfl, rfl, rfl, by decide +kernel, rfl, by decide +kernel, by decide +kernel⟩
theorem ok_presL (D : Df K mg "_law_present" sPresentL ["jobs", "unit", "finished"]) (B : Blt mg) : Cl P w K mg base CX0 1 "_law_present" ["jobs", "unit", "finished"] (spPresL K) := by
  refine cl0 D scPresL (fun vs H Q E h => ?_) (fun f cdv A outer s H vs Q E hr h => ?_)
  · obtain ⟨v, js, u, f, rfl, _⟩ := h
    rfl
  · obtain ⟨v, js, u, fi, rfl, hd, okj, l9, k⟩ := h
    refine ⟨_, pss_cons (ps_set (i := 3) scPresL.nd rfl (Or.inl rfl) pe_int)
      (pss_cons (ps_for PassesOwn.never rfl (pi_tup (pv 0)) (pg_tup rfl (pgs_cons (pg_name (i := 4) scPresL.nd rfl (.inl rfl)) (pgs_cons (pg_name (i := 5) scPresL.nd rfl (.inl rfl)) (pgs_cons (pg_name (i := 6) scPresL.nd rfl (.inl rfl)) pgs_nil))))
        (pss_one (ps_set (i := 3) scPresL.nd rfl (Or.inl rfl) (pe_op op_add (pv 3) (pe_callTy call_int1 (by rfl) B.int (by decide +kernel) (pa_cons (pe_cmpR op_le (pe_ix ix_tup (pv 5) pe_int (fun _ _ => rfl))
          (pe_ix ix_list (pe_lst (pa_cons (pe_op op_sub (pv 1) pe_int) (pa_cons (pv 2) pa_nil))) (pe_callTy call_int1 (by rfl) B.int (by decide +kernel) (pa_cons (pe_cmpR op_eq (pe_ix ix_tup (pv 5) pe_int (fun _ _ => rfl)) pe_str (nomark _)) pa_nil)) (fun _ _ => rfl)) (nomark _)) pa_nil))))))
      (pss_one (ps_ret (pe_op op_sub (pv 3) (pv 2))))), ?_⟩
    obtain ⟨pj, xs, rfl, qj, rj⟩ := dp_tuple hd
    have xl := dps_len rj
    refine ⟨_, rfl, pj, rfl, ⟨_, qj⟩, for_it (walk_tup (K := K) (a := pj) (xs := xs)) (fun i σ G => ∃ (u4 u5 u6 : Option V), σ = [some (.ref pj), some (.int u), some (.int fi), some (.int (((js.take i).map arrD).countP (reachA (u - 1) fi) : Nat)), u4, u5, u6] ∧ Same H G)
      ⟨none, none, none, rfl, Same.refl H⟩ (fun i σ G _ ⟨_, _, _, _, s⟩ => same_seqT s qj) ?_ ?_⟩
    · rintro i y1 σ G0 G hi ⟨u4, u5, u6, rfl, sG⟩ ⟨rfl, hy1⟩
      obtain ⟨d1, hd1, dd1⟩ := dps_getV rj hy1
      obtain ⟨n, kd, t, e, rfl, hn, hk⟩ := job_parts (List.all_eq_true.mp okj d1 (List.mem_of_getElem? hd1))
      obtain ⟨p, x, y, z, rfl, q, dn, da, de⟩ := dp_three (dp_same sG dd1)
      obtain ⟨pa, kv, tv, rfl, qa, dk, dt⟩ := dp_two da
      have ek := dp_str dk
      subst ek
      have et := dp_int dt
      subst et
      have e2 : ((js.take (i + 1)).map arrD).countP (reachA (u - 1) fi) = ((js.take i).map arrD).countP (reachA (u - 1) fi) + (if reachA (u - 1) fi (.tuple [.str kd, .int t]) = true then 1 else 0) := by
        rw [List.take_add_one, hd1]
        show ((js.take i ++ [PyData.tuple [.str n, .tuple [.str kd, .int t], .int e]]).map arrD).countP (reachA (u - 1) fi) = _
        rw [List.map_append, List.countP_append]
        show _ + [PyData.tuple [.str kd, .int t]].countP (reachA (u - 1) fi) = _
        rw [List.countP_singleton]
      have er : reachA (u - 1) fi (.tuple [.str kd, .int t]) = decide (t ≤ if atS "at" (.str kd) = true then u - 1 else fi) := rfl
      refine ⟨p, _, rfl, q, rfl, _, _, rfl, _, _, rfl, _, _, rfl, rfl, ?_⟩
      refine ⟨_, rfl, _, rfl, pa, _, _, _, rfl, rfl, qa, rfl, _, rfl, _, _, rfl, rfl, _, rfl, (by show 2 ≤ sizeLine; decide), fun l nl => ?_⟩
      have sl := same_new (o := .lst [.int (u - 1), .int fi]) nl
      refine ⟨_, rfl, pa, _, _, _, rfl, rfl, same_seqT sl qa, rfl, rfl, .inr ⟨_, rfl, ?_⟩⟩
      have fin : ∀ b : Bool, reachA (u - 1) fi (.tuple [.str kd, .int t]) = b → ((((js.take i).map arrD).countP (reachA (u - 1) fi) : Nat) : Int) + (if b = true then 1 else 0) = ((((js.take (i + 1)).map arrD).countP (reachA (u - 1) fi) : Nat) : Int) := fun b hb => by
        rw [e2, hb]
        cases b <;> simp
      rcases hk with rfl | rfl
      · refine ⟨l, _, _, _, rfl, rfl, SqL.of upd_same, atI_nat (j := 0) rfl, _, _, rfl, rfl, .inr ⟨_, rfl, _, _, rfl, rfl, some x, some (.ref pa), some z, ?_, sG.trans sl⟩⟩
        rw [← fin (decide (t ≤ u - 1)) er]
        rfl
      · refine ⟨l, _, _, _, rfl, rfl, SqL.of upd_same, atI_nat (j := 1) rfl, _, _, rfl, rfl, .inr ⟨_, rfl, _, _, rfl, rfl, some x, some (.ref pa), some z, ?_, sG.trans sl⟩⟩
        rw [← fin (decide (t ≤ fi)) er]
        rfl
    · rintro σ G ⟨u4, u5, u6, rfl, sG⟩
      rw [xl, List.take_length]
      exact ⟨_, rfl, _, rfl, _, _, rfl, rfl, k G sG⟩
def spLogFault (K : PySem.W.Frag) : Sp := fun vs H Q _ => ∃ (v : V) (d : PyData), vs = [v] ∧ Dp K H v d ∧ lenLog d ≤ 50000 ∧ ∀ H', Same H H' → Q (optV (logPlace d)) H'
theorem scLogFault : FnScope ["log", "before", "place", "pair"] ["log"] (defScope sLogFault) := ⟨rfl, rfl, rfl, by decide +kernel, rfl, by decide +kernel, by decide +kernel⟩
theorem ok_logFault (D : Df K mg "_law_log_fault" sLogFault ["log"]) (B : Blt mg) (I : Cl P w K mg base CX0 1 "_law_is_int" ["value", "least"] (spInteger K)) : Cl P w K mg base CX0 2 "_law_log_fault" ["log"] (spLogFault K) := by
  refine cl0 D scLogFault (fun vs H Q E h => ?_) (fun f cdv A outer s H vs Q E hr h => ?_)
  · obtain ⟨v, d, rfl, _⟩ := h
    rfl
  · obtain ⟨v, d, rfl, hd, ld, k⟩ := h
    refine ⟨_, pss_cons (ps_if (pt_not (pt_val (pe_callB call_isi (by rfl) B.isi (by decide +kernel) (pa_cons (pv 0) (pa_cons (pe_bltn (v := .ty "tuple") (u := .type "tuple") (by rfl) B.tuple (by decide +kernel) rfl) pa_nil))))) (pss_one (ps_ret pe_int)) pss_nil)
      (pss_cons (ps_set (i := 1) scLogFault.nd rfl (Or.inl rfl) pe_int)
      (pss_cons (ps_for PassesOwn.never rfl (pi_enumT B.enum (pa_cons (pv 0) pa_nil)) (pg_tup rfl (pgs_cons (pg_name (i := 2) scLogFault.nd rfl (.inl rfl)) (pgs_cons (pg_name (i := 3) scLogFault.nd rfl (.inl rfl)) pgs_nil)))
        (pss_cons (ps_if (PW.pt (pw_or (pt_not (pt_val (pe_callB call_isi (by rfl) B.isi (by decide +kernel) (pa_cons (pv 3) (pa_cons (pe_bltn (v := .ty "tuple") (u := .type "tuple") (by rfl) B.tuple (by decide +kernel) rfl) pa_nil))))) (pw_or1 (pt_cmpR op_ne (pe_callB call_len_seq (by rfl) B.len PySem.boot_len (pa_cons (pv 3) pa_nil)) pe_int (nomark _))))) (pss_one (ps_ret (pv 2))) pss_nil)
        (pss_cons (ps_if (PW.pt (pw_or (pt_not (pt_val (pc I hr (by decide) (pa_cons (pe_ix ix_tup (pv 3) pe_int (fun _ _ => rfl)) (pa_cons (pe_op op_add (pv 1) pe_int) pa_nil)))))
            (pw_or1 (pt_not (pt_val (pc I hr (by decide) (pa_cons (pe_ix ix_tup (pv 3) pe_int (fun _ _ => rfl)) (pa_cons pe_int pa_nil))))))))
          (pss_one (ps_ret (pv 2))) pss_nil)
        (pss_one (ps_set (i := 1) scLogFault.nd rfl (Or.inl rfl) (pe_ix ix_tup (pv 3) pe_int (fun _ _ => rfl)))))))
      (pss_one (ps_ret pe_non)))), ?_⟩
    have fin : ∀ o, logPlace d = o → ∀ H', Same H H' → Q (optV o) H' := fun o e H' s' => by
      have z := k H' s'
      rw [e] at z
      exact z
    refine ⟨_, rfl, v, _, _, _, _, rfl, .ty "tuple", dp_ty hd, kit_tup hd, _, rfl, ?_⟩
    cases htup : isTupD d with
    | false =>
      have e2 : logPlace d = some 0 := by
        cases d with
        | tuple ds => cases htup
        | _ => rfl
      exact iteT (fin (some 0) e2 H (Same.refl H))
    | true =>
      obtain ⟨ds, rfl⟩ : ∃ ds, d = .tuple ds := by
        cases d with
        | tuple ls => exact ⟨ls, rfl⟩
        | _ => cases htup
      obtain ⟨pj, xs, rfl, qj, rj⟩ := dp_tuple hd
      have xl := dps_len rj
      have lp : logPlace (.tuple ds) = match badPair 0 0 ds with
        | some i => some (i : Int)
        | none => none := rfl
      refine iteF ⟨_, rfl, pj, xs, rfl, qj, for_it (walk_enumT (K := K) (a := pj) (xs := xs)) (fun i σ G => ∃ (b : Int) (u2 u3 : Option V), σ = [some (.ref pj), some (.int b), u2, u3] ∧ Same H G ∧ badPair 0 0 ds = badPair b i (ds.drop i))
        ⟨0, none, none, rfl, Same.refl H, rfl⟩ (fun i σ G _ ⟨_, _, _, _, s1, _⟩ => same_seqT s1 qj) ?_ ?_⟩
      · rintro i v1 σ G G2 hi ⟨b, u2, u3, rfl, s1, eb⟩ ⟨TT, x1, y1, rfl, nT, rfl, ex, ey⟩
        cases ex
        obtain ⟨d1, hd1, dp1⟩ := dps_getV rj ey
        have s2 := s1.trans (same_new (o := .tup [V.int (i : Nat), y1]) nT)
        have dr : ds.drop i = d1 :: ds.drop (i + 1) := by
          obtain ⟨h1, h2⟩ := List.getElem?_eq_some_iff.mp hd1
          rw [List.drop_eq_getElem_cons h1, h2]
        rw [dr] at eb
        replace eb : badPair 0 0 ds = match pairD b d1 with
          | some p => badPair p.1 (i + 1) (ds.drop (i + 1))
          | none => some i := eb
        refine ⟨TT, _, rfl, SqT.of upd_same, rfl, _, _, rfl, _, _, rfl, rfl, ?_⟩
        have stop : pairD b d1 = none → ∀ H', Same H H' → Q (.int (i : Int)) H' := fun hp H' s' => fin (some (i : Int)) (by rw [lp, eb, hp]) H' s'
        have dp2 := dp_same s2 dp1
        refine ⟨_, rfl, y1, _, _, _, _, rfl, .ty "tuple", dp_ty dp2, kit_tup dp2, _, rfl, ?_⟩
        cases ht1 : isTupD d1 with
        | false =>
          refine iteT (iteT ⟨_, rfl, stop ?_ _ s2⟩)
          cases d1 with
          | tuple _ => cases ht1
          | _ => rfl
        | true =>
        obtain ⟨es, rfl⟩ : ∃ es, d1 = .tuple es := by
          cases d1 with
          | tuple ls => exact ⟨ls, rfl⟩
          | _ => cases ht1
        refine iteF ?_
        cases ht : tupleND 2 (.tuple es) with
        | false =>
          obtain ⟨pp, zs, rfl, q0, r0⟩ := dp_tuple dp2
          have z : ¬ (es.length : Int) = 2 := of_decide_eq_false ht
          refine ⟨_, rfl, pp, zs, rfl, .inr q0, rfl, _, rfl, ?_⟩
          have e3 : (!decide (V.int (zs.length : Nat) = V.int 2)) = true := by
            rw [decide_eq_false (fun y => z (by rw [← dps_len r0]; exact V.int.inj y))]
            rfl
          rw [e3]
          refine iteT ⟨_, rfl, ?_⟩
          exact stop (pair_not ht) _ s2
        | true =>
          obtain ⟨x, y, e5⟩ := tup_two ht
          cases e5
          obtain ⟨pp, xv, yv, rfl, qp, dx', dy'⟩ := dp_two dp2
          refine ⟨_, rfl, pp, _, rfl, .inr qp, rfl, _, rfl, iteF ?_⟩
          refine ⟨_, rfl, pp, _, _, _, rfl, rfl, qp, rfl, _, rfl, _, _, rfl, rfl, xv, x, b + 1, rfl, dx', _, rfl, ?_⟩
          cases h1 : integerD (b + 1) x with
          | false =>
            refine iteT (iteT ⟨_, rfl, ?_⟩)
            exact stop (pair_fst h1) _ s2
          | true =>
            refine iteF ⟨_, rfl, pp, _, _, _, rfl, rfl, qp, rfl, yv, y, 1, rfl, dy', _, rfl, ?_⟩
            cases h2 : integerD 1 y with
            | false =>
              refine iteT ⟨_, rfl, ?_⟩
              exact stop (pair_snd h2) _ s2
            | true =>
              obtain ⟨u, rfl, hu⟩ := int_of h1
              obtain ⟨f, rfl, hf⟩ := int_of h2
              have exv := dp_int dx'
              subst exv
              refine iteF ⟨_, rfl, pp, _, _, _, rfl, rfl, qp, rfl, u, _, _, rfl, s2, ?_⟩
              rw [eb, show pairD b (.tuple [.int u, .int f]) = some (u, f) from pairD_P (p := (u, f)) hu hf]
      · rintro σ G ⟨b, u2, u3, rfl, s1, eb⟩
        rw [xl, List.drop_length] at eb
        exact fin none (by rw [lp, eb]; rfl) G s1
end
end Vk
namespace Vk
open PySem PySem.Spec PyProof.Rows L2 GxR
theorem jobs_arr {js : List PyData} (ok : js.all jobD = true) {d : PyData} (h : d ∈ js.map arrD) : ∃ (k : Str) (t : Int), d = .tuple [.str k, .int t] ∧ (k = "at" ∨ k = "after") := by
  obtain ⟨j, hj, rfl⟩ := List.mem_map.mp h
  obtain ⟨n, k, t, e, rfl, _, hk⟩ := job_parts (List.all_eq_true.mp ok j hj)
  exact ⟨k, t, rfl, hk⟩
theorem reach_at {m f t : Int} : reachA m f (.tuple [.str "at", .int t]) = decide (t ≤ m) := rfl
theorem reach_after {m f t : Int} : reachA m f (.tuple [.str "after", .int t]) = decide (t ≤ f) := rfl
/-- who is reached stays reached -/
theorem reach_mono {m m' f f' : Int} (hm : m ≤ m') (hf : f ≤ f') {d : PyData} (h : reachA m f d = true) : reachA m' f' d = true := by
  unfold reachA at h ⊢
  split at h
  · rename_i k t
    have z := of_decide_eq_true h
    refine decide_eq_true ?_
    split at z <;> rename_i e <;> first | rw [if_pos e] ; omega | rw [if_neg e]; omega
  · cases h
theorem count_mono {js : List PyData} {m m' f f' : Int} (hm : m ≤ m') (hf : f ≤ f') : countA js m f ≤ countA js m' f' :=
  List.countP_mono_left fun d _ h => reach_mono hm hf h
/-- with the moment of one who waits for it, one more -/
theorem count_more {js : List PyData} {m m' f t : Int} (h : .tuple [.str "at", .int t] ∈ js.map arrD) (h1 : m < t) (h2 : t ≤ m') : countA js m f + 1 ≤ countA js m' f := by
  obtain ⟨l1, l2, e⟩ := List.append_of_mem h
  unfold countA
  rw [e, List.countP_append, List.countP_append, List.countP_cons, List.countP_cons, reach_at, reach_at, if_neg (by rw [decide_eq_false (by omega)]; exact Bool.false_ne_true), if_pos (decide_eq_true h2)]
  have z1 : l1.countP (reachA m f) ≤ l1.countP (reachA m' f) := List.countP_mono_left fun d _ h => reach_mono (by omega) (Int.le_refl _) h
  have z2 : l2.countP (reachA m f) ≤ l2.countP (reachA m' f) := List.countP_mono_left fun d _ h => reach_mono (by omega) (Int.le_refl _) h
  omega
/-- as long as jobs are missing and nobody is there, somebody comes at a later moment -/
theorem some_at {js : List PyData} (ok : js.all jobD = true) (fn : Fine js) {m f : Int} (f0 : 0 ≤ f) (hf : f < js.length) (h : (countA js m f : Int) ≤ f) : ∃ t : Int, .tuple [.str "at", .int t] ∈ js.map arrD ∧ m < t := by
  refine Classical.byContradiction fun no => ?_
  have ats : ∀ t : Int, .tuple [.str "at", .int t] ∈ js.map arrD → t ≤ m := fun t ht => Int.not_lt.mp fun z => no ⟨t, ht, z⟩
  have afts : ∀ (n : Nat) (t : Int), t.toNat ≤ n → .tuple [.str "after", .int t] ∈ js.map arrD → t ≤ f := by
    intro n
    induction n with
    | zero => intro t ht _; omega
    | succ n ih =>
      intro t ht hm
      rcases fn.2 _ _ hm with z | z
      · exact absurd z (by decide +kernel)
      · have q : (js.map arrD).countP (befA t) ≤ countA js m f := by
          refine List.countP_mono_left fun d hd hb => ?_
          obtain ⟨k, t2, rfl, hk⟩ := jobs_arr ok hd
          rcases hk with rfl | rfl
          · exact decide_eq_true (ats t2 hd)
          · have hb : decide (t2 < t) = true := hb
            have lt := of_decide_eq_true hb
            refine decide_eq_true (show t2 ≤ f from ?_)
            by_cases z0 : t2 ≤ 0
            · omega
            · exact ih t2 (by omega) hd
        omega
  have all : countA js m f = (js.map arrD).length := by
    refine List.countP_eq_length.mpr fun d hd => ?_
    obtain ⟨k, t, rfl, hk⟩ := jobs_arr ok hd
    rcases hk with rfl | rfl
    · exact decide_eq_true (ats t hd)
    · exact decide_eq_true (afts t.toNat t (Nat.le_refl _) hd)
  rw [all, List.length_map] at h
  omega
/-- the later moments -/
def atMom (u : Int) : PyData → Option Int
  | .tuple [.str k, .int t] => if k = "at" ∧ u ≤ t then some t else none
  | _ => none
theorem mem_moms {js : List PyData} {u t : Int} : t ∈ (js.map arrD).filterMap (atMom u) ↔ .tuple [.str "at", .int t] ∈ js.map arrD ∧ u ≤ t := by
  rw [List.mem_filterMap]
  constructor
  · rintro ⟨d, hd, e⟩
    unfold atMom at e
    split at e
    · rename_i k t'
      split at e
      · rename_i z
        cases e
        rw [z.1] at hd
        exact ⟨hd, z.2⟩
      · cases e
    · cases e
  · rintro ⟨h1, h2⟩
    exact ⟨_, h1, by show (if ("at" : Str) = "at" ∧ u ≤ t then some t else none) = some t; rw [if_pos ⟨rfl, h2⟩]⟩
theorem asc_end : ∀ {lg : List (Int × Int)} {b u f : Int}, Asc b lg → (∀ p ∈ lg, p.1 < u) → b < u → 1 ≤ f → Asc b (lg ++ [(u, f)])
  | [], _, _, _, _, _, h1, h2 => ⟨by omega, h2, trivial⟩
  | p :: r, b, u, f, h, hp, _, h2 => ⟨h.1, h.2.1, asc_end h.2.2 (fun q hq => hp q (by simp [hq])) (hp p (by simp)) h2⟩
end Vk
namespace Vk
open PySem PySem.Spec PyProof.Rows L2 GxR
/-- the units behind b, one by one, g the content at a moment -/
def unitsF (g : Int → Int) (b : Int) (n : Nat) : List Trp := (List.range n).map fun (i : Nat) => (b + 1 + (i : Int), b + 1 + (i : Int), g (b + (i : Int)))
theorem unitsF_len {g : Int → Int} {b : Int} {n : Nat} : (unitsF g b n).length = n := by
  unfold unitsF
  rw [List.length_map, List.length_range]
theorem unitsF_succ {g : Int → Int} {b : Int} {n : Nat} : unitsF g b (n + 1) = unitsF g b n ++ [(b + 1 + (n : Int), b + 1 + (n : Int), g (b + (n : Int)))] := by
  unfold unitsF
  rw [List.range_succ, List.map_append]
  rfl
theorem unitsF_add {g : Int → Int} {b : Int} {n : Nat} : ∀ k : Nat, unitsF g b (n + k) = unitsF g b n ++ unitsF g (b + (n : Int)) k
  | 0 => by
    show _ = _ ++ []
    rw [List.append_nil]
    rfl
  | k + 1 => by
    rw [← Nat.add_assoc, unitsF_succ, unitsF_add k, unitsF_succ, List.append_assoc]
    congr 3
    push_cast
    rw [show b + 1 + ((n : Int) + (k : Int)) = b + (n : Int) + 1 + (k : Int) by omega, show b + ((n : Int) + (k : Int)) = b + (n : Int) + (k : Int) by omega]
theorem unitsF_congr {g h : Int → Int} {b : Int} {n : Nat} (e : ∀ i : Nat, i < n → g (b + (i : Int)) = h (b + (i : Int))) : unitsF g b n = unitsF h b n := by
  unfold unitsF
  refine List.map_congr_left fun i hi => ?_
  rw [e i (List.mem_range.mp hi)]
/-- one content: one stretch -/
theorem unitsF_const {g : Int → Int} {acc : List Trp} {b c : Int} {n : Nat} (e : ∀ i : Nat, i < n + 1 → g (b + (i : Int)) = c) : (unitsF g b (n + 1)).foldl joinS acc = joinS acc (b + 1, b + 1 + (n : Int), c) := by
  rw [unitsF_congr (h := fun _ => c) e]
  exact join_units n
/-- the rows as they come, unit by unit -/
def rowsL (js : List PyData) : List Trp → Int → Int → List (Int × Int) → List Trp
  | acc, _, _, [] => acc
  | acc, f, b, p :: r => rowsL js ((unitsF (fun m => (countA js m f : Int) - f) b (p.1 - b).toNat).foldl joinS acc) (f + p.2) p.1 r
def hereM (js : List PyData) (lg : List (Int × Int)) (m : Int) : Int := (countA js m (doneBy m lg) : Int) - doneBy m lg
def endU : Int → List (Int × Int) → Int
  | b, [] => b
  | _, p :: r => endU p.1 r
theorem endU_last : ∀ {lg : List (Int × Int)} {b : Int}, lg ≠ [] → endU b lg = lastU lg
  | [p], b, _ => rfl
  | p :: q :: r, b, _ => by
    show endU p.1 (q :: r) = _
    rw [endU_last (by simp)]
    unfold lastU
    rw [List.getLast?_cons_cons]
theorem asc_le : ∀ {lg : List (Int × Int)} {b : Int}, Asc b lg → ∀ p ∈ lg, b < p.1
  | [], _, _, p, hp => absurd hp (by simp)
  | q :: r, b, h, p, hp => by
    rcases List.mem_cons.mp hp with rfl | hp
    · have := h.1
      omega
    · have z := asc_le h.2.2 p hp
      have := h.1
      omega
theorem asc_end_le : ∀ {lg : List (Int × Int)} {b : Int}, Asc b lg → b ≤ endU b lg
  | [], _, _ => Int.le_refl _
  | q :: r, b, h => by
    have z := asc_end_le h.2.2
    have := h.1
    show b ≤ endU q.1 r
    omega
theorem done_seg {pre suf : List (Int × Int)} {m : Int} (h1 : ∀ p ∈ pre, p.1 ≤ m) (h2 : ∀ p ∈ suf, m < p.1) : doneBy m (pre ++ suf) = (pre.map (·.2)).sum := by
  unfold doneBy
  rw [List.filter_append, List.filter_eq_self.mpr (fun p hp => decide_eq_true (h1 p hp)), List.filter_eq_nil_iff.mpr (fun p hp => by
    have z := h2 p hp
    rw [decide_eq_false (by omega)]
    exact Bool.false_ne_true), List.append_nil]
/-- the rows are those of all units, joined -/
theorem rows_units (js : List PyData) : ∀ (suf pre : List (Int × Int)) (acc : List Trp) (b : Int), Asc b suf → (∀ p ∈ pre, p.1 ≤ b) →
    rowsL js acc ((pre.map (·.2)).sum) b suf = (unitsF (hereM js (pre ++ suf)) b (endU b suf - b).toNat).foldl joinS acc
  | [], pre, acc, b, _, _ => by
    show acc = List.foldl joinS acc (unitsF _ b (b - b).toNat)
    rw [Int.sub_self]
    rfl
  | p :: r, pre, acc, b, h, hp => by
    have e := rows_units js r (pre ++ [p]) ((unitsF (fun m => (countA js m (pre.map (·.2)).sum : Int) - (pre.map (·.2)).sum) b (p.1 - b).toNat).foldl joinS acc) p.1 h.2.2 (fun q hq => by
      rcases List.mem_append.mp hq with hq | hq
      · have := hp q hq
        have := h.1
        omega
      · rw [List.mem_singleton.mp hq]
        exact Int.le_refl _)
    rw [List.map_append, List.sum_append, List.map_cons, List.map_nil, List.sum_cons, List.sum_nil, Int.add_zero, List.append_assoc, List.singleton_append] at e
    show rowsL js ((unitsF (fun m => (countA js m (pre.map (·.2)).sum : Int) - (pre.map (·.2)).sum) b (p.1 - b).toNat).foldl joinS acc) ((pre.map (·.2)).sum + p.2) p.1 r = List.foldl joinS acc (unitsF _ b (endU p.1 r - b).toNat)
    rw [e]
    have h1 := h.1
    have h2 := asc_end_le h.2.2
    rw [show (endU p.1 r - b).toNat = (p.1 - b).toNat + (endU p.1 r - p.1).toNat by omega, unitsF_add, List.foldl_append, show b + (((p.1 - b).toNat : Nat) : Int) = p.1 by omega]
    congr 2
    refine unitsF_congr fun i hi => ?_
    unfold hereM
    rw [done_seg (fun q hq => by have := hp q hq; omega) (fun q hq => by
      rcases List.mem_cons.mp hq with rfl | hq
      · omega
      · have := asc_le h.2.2 q hq
        omega)]
/-- where something changes -/
def chg (js : List PyData) (lg : List (Int × Int)) (k : Int) : Prop := k ∈ (js.map arrD).filterMap momOf ∨ k ∈ lg.map (·.1)
theorem mem_mom {js : List PyData} {t : Int} : t ∈ (js.map arrD).filterMap momOf ↔ .tuple [.str "at", .int t] ∈ js.map arrD := by
  rw [List.mem_filterMap]
  constructor
  · rintro ⟨d, hd, e⟩
    unfold momOf at e
    split at e
    · rename_i k t'
      split at e
      · rename_i z
        cases e
        rw [z] at hd
        exact hd
      · cases e
    · cases e
  · intro h
    exact ⟨_, h, by show (if ("at" : Str) = "at" then some t else none) = some t; rw [if_pos rfl]⟩
theorem here_same {js : List PyData} {lg : List (Int × Int)} (ok : js.all jobD = true) {s m : Int} (h : s ≤ m) (no : ∀ k, s < k → k ≤ m → ¬ chg js lg k) : hereM js lg m = hereM js lg s := by
  have e1 : doneBy m lg = doneBy s lg := by
    unfold doneBy
    congr 2
    refine List.filter_congr fun p hp => decide_eq_decide.mpr ⟨fun z => Int.not_lt.mp fun lt => no p.1 lt z (.inr (List.mem_map.mpr ⟨p, hp, rfl⟩)), fun z => by omega⟩
  have e2 : ∀ f, countA js m f = countA js s f := fun f => by
    unfold countA
    refine List.countP_congr fun d hd => ?_
    obtain ⟨k, t, rfl, hk⟩ := jobs_arr ok hd
    rcases hk with rfl | rfl
    · rw [reach_at, reach_at, decide_eq_true_iff, decide_eq_true_iff]
      exact ⟨fun z => Int.not_lt.mp fun lt => no t lt z (.inl (mem_mom.mpr hd)), fun z => by omega⟩
    · exact Iff.rfl
  unfold hereM
  rw [e1, e2]
/-- the pieces between the moments are those of all units -/
theorem pcs_units {js : List PyData} {lg : List (Int × Int)} {last : Int} (ok : js.all jobD = true) : ∀ (rest : List Int) (s : Int) (acc : List Trp), (s :: rest).Pairwise (· < ·) → (∀ k ∈ s :: rest, k < last) → (∀ k, s < k → k < last → chg js lg k → k ∈ rest) →
    (pcs js lg last (s :: rest)).foldl joinS acc = (unitsF (hereM js lg) s (last - s).toNat).foldl joinS acc
  | [], s, acc, _, hl, hc => by
    have h1 := hl s (by simp)
    show joinS acc (s + 1, last, hereM js lg s) = _
    rw [show (last - s).toNat = (last - s - 1).toNat + 1 by omega, unitsF_const (c := hereM js lg s) (fun i hi => here_same ok (by omega) fun k k1 k2 ck => absurd (hc k k1 (by omega) ck) (by simp))]
    congr 2
    rw [show s + 1 + (((last - s - 1).toNat : Nat) : Int) = last by omega]
  | t :: r, s, acc, hp, hl, hc => by
    have hp' := List.pairwise_cons.mp hp
    have st := hp'.1 t (by simp)
    have tl := hl t (by simp)
    show (pcs js lg last (t :: r)).foldl joinS (joinS acc (s + 1, t, hereM js lg s)) = _
    rw [pcs_units ok r t _ hp'.2 (fun k hk => hl k (List.mem_cons_of_mem _ hk)) (fun k k1 k2 ck => by
      rcases List.mem_cons.mp (hc k (by omega) k2 ck) with rfl | z
      · omega
      · exact z)]
    rw [show (last - s).toNat = ((t - s - 1).toNat + 1) + (last - t).toNat by omega, unitsF_add, List.foldl_append]
    rw [unitsF_const (c := hereM js lg s) (fun i hi => here_same ok (by omega) fun k k1 k2 ck => by
      have z := hc k k1 (by omega) ck
      rcases List.mem_cons.mp z with rfl | z
      · omega
      · have := (List.pairwise_cons.mp hp'.2).1 k z
        omega)]
    rw [show s + (((t - s - 1).toNat + 1 : Nat) : Int) = t by omega, show s + 1 + (((t - s - 1).toNat : Nat) : Int) = t by omega]
theorem mom_pos {js : List PyData} (ok : js.all jobD = true) {t : Int} (h : t ∈ (js.map arrD).filterMap momOf) : 0 ≤ t := by
  obtain ⟨j, hj, e⟩ := List.mem_map.mp (mem_mom.mp h)
  obtain ⟨n, k, t', x, rfl, _, _⟩ := job_parts (List.all_eq_true.mp ok j hj)
  have z := List.all_eq_true.mp ok _ hj
  replace z : (nameD (.str n) && (arrivalD (.tuple [.str k, .int t']) && (integerD 0 (.int x) && le9 (.int x)))) = true := z
  obtain ⟨_, z⟩ := Bool.and_eq_true_iff.mp z
  obtain ⟨z, _⟩ := Bool.and_eq_true_iff.mp z
  cases e
  have z : integerD 0 (.int t) = true := z
  exact of_decide_eq_true z
theorem pres_rows {js : List PyData} {lg : List (Int × Int)} (ok : js.all jobD = true) (asc : Asc 0 lg) (ne : lg ≠ []) {ns : List Int} (pw : ns.Pairwise (· < ·)) (mem : ∀ k : Int, k ∈ ns ↔ k ∈ 0 :: momsL js lg (lastU lg)) :
    joinL (pcs js lg (lastU lg) ns) = rowsL js [] 0 0 lg := by
  have e := rows_units js lg [] [] 0 asc (by simp)
  rw [List.nil_append, endU_last ne] at e
  have e0 : ((([] : List (Int × Int)).map (·.2)).sum) = (0 : Int) := rfl
  rw [e0] at e
  rw [e]
  have lpos : 0 < lastU lg := by
    have z := asc_end_le asc
    rw [endU_last ne] at z
    cases lg with
    | nil => exact absurd rfl ne
    | cons p r =>
      have z2 := asc_end_le asc.2.2
      have z3 := asc.1
      rw [← endU_last (b := 0) ne]
      show 0 < endU p.1 r
      omega
  have memM : ∀ k, k ∈ momsL js lg (lastU lg) ↔ chg js lg k ∧ k < lastU lg := fun k => by
    unfold momsL chg
    rw [List.mem_filter, List.mem_append, decide_eq_true_iff]
  have pos : ∀ k ∈ ns, 0 ≤ k ∧ k < lastU lg := fun k hk => by
    rcases List.mem_cons.mp ((mem k).mp hk) with rfl | z
    · exact ⟨Int.le_refl _, lpos⟩
    · obtain ⟨c, lt⟩ := (memM k).mp z
      refine ⟨?_, lt⟩
      rcases c with c | c
      · exact mom_pos ok c
      · obtain ⟨p, hp, rfl⟩ := List.mem_map.mp c
        have := asc_le asc p hp
        omega
  cases ns with
  | nil => exact absurd ((mem 0).mpr (by simp)) (by simp)
  | cons s rest =>
    have s0 : s = 0 := by
      have h0 := (pos s (by simp)).1
      rcases List.mem_cons.mp ((mem 0).mpr (by simp)) with z | z
      · exact z.symm
      · have := (List.pairwise_cons.mp pw).1 0 z
        omega
    subst s0
    unfold joinL
    refine pcs_units ok rest 0 [] pw (fun k hk => (pos k hk).2) (fun k k1 k2 ck => ?_)
    rcases List.mem_cons.mp ((mem k).mpr (List.mem_cons_of_mem _ ((memM k).mpr ⟨ck, k2⟩))) with rfl | z
    · omega
    · exact z
/-! ### the last row, the number of rows -/
theorem joinS_last {acc : List Trp} {p : Trp} : ∃ x, (joinS acc p).getLast? = some (x, p.2.1, p.2.2) := by
  unfold joinS
  split
  · rename_i q _
    split
    · exact ⟨q.1, by rw [List.getLast?_append, List.getLast?_singleton]; rfl⟩
    · exact ⟨p.1, by rw [List.getLast?_append, List.getLast?_singleton]; rfl⟩
  · exact ⟨p.1, by rw [List.getLast?_append, List.getLast?_singleton]; rfl⟩
theorem joinS_ne {acc : List Trp} {p : Trp} : joinS acc p ≠ [] := fun e => by
  obtain ⟨x, h⟩ := joinS_last (acc := acc) (p := p)
  rw [e] at h
  cases h
theorem fold_len : ∀ {ps acc : List Trp}, (ps.foldl joinS acc).length ≤ acc.length + ps.length
  | [], acc => Nat.le_refl _
  | p :: r, acc => by
    have z := fold_len (ps := r) (acc := joinS acc p)
    have z2 := joinS_len (acc := acc) (p := p)
    rw [List.foldl_cons, List.length_cons]
    omega
/-! ### later: one stretch more, or a longer first one -/
theorem joinS_cons {a q : Trp} {r : List Trp} {p : Trp} : joinS (a :: q :: r) p = a :: joinS (q :: r) p := by
  unfold joinS
  rw [List.getLast?_cons_cons]
  split
  · split
    · rw [List.dropLast_cons_of_ne_nil (by simp), List.cons_append]
    · rfl
  · rfl
theorem fold_cons {a : Trp} : ∀ {ps : List Trp} {acc : List Trp}, acc ≠ [] → ps.foldl joinS (a :: acc) = a :: ps.foldl joinS acc
  | [], _, _ => rfl
  | p :: r, acc, h => by
    cases acc with
    | nil => exact absurd rfl h
    | cons q s =>
      rw [List.foldl_cons, List.foldl_cons, joinS_cons, fold_cons joinS_ne]
def setF (x : Int) : List Trp → List Trp
  | [] => []
  | q :: r => (x, q.2.1, q.2.2) :: r
theorem joinS_setF {x : Int} {p : Trp} : ∀ {acc : List Trp}, acc ≠ [] → joinS (setF x acc) p = setF x (joinS acc p)
  | [], h => absurd rfl h
  | [q], _ => by
    show (if q.2.2 = p.2.2 then [(x, p.2.1, p.2.2)] else [(x, q.2.1, q.2.2), p]) = setF x (if q.2.2 = p.2.2 then [(q.1, p.2.1, p.2.2)] else [q, p])
    split <;> rfl
  | q :: q2 :: r, _ => by
    show joinS ((x, q.2.1, q.2.2) :: q2 :: r) p = setF x (joinS (q :: q2 :: r) p)
    rw [joinS_cons, joinS_cons]
    rfl
theorem fold_setF {x : Int} : ∀ {ps acc : List Trp}, acc ≠ [] → ps.foldl joinS (setF x acc) = setF x (ps.foldl joinS acc)
  | [], _, _ => rfl
  | p :: r, acc, h => by
    rw [List.foldl_cons, List.foldl_cons, joinS_setF h, fold_setF joinS_ne]
theorem fold_head : ∀ {ps : List Trp} {acc : List Trp} {q : Trp}, acc.head? = some q → ∃ q', (ps.foldl joinS acc).head? = some q' ∧ q'.2.2 = q.2.2
  | [], acc, q, h => ⟨q, h, rfl⟩
  | p :: r, acc, q, h => by
    have step : ∃ q', (joinS acc p).head? = some q' ∧ q'.2.2 = q.2.2 := by
      match acc, h with
      | [q1], h =>
        cases h
        show ∃ q', (if q.2.2 = p.2.2 then [(q.1, p.2.1, p.2.2)] else [q, p]).head? = some q' ∧ _
        split
        · rename_i e
          exact ⟨_, rfl, e.symm⟩
        · exact ⟨_, rfl, rfl⟩
      | q1 :: q2 :: s, h =>
        cases h
        rw [joinS_cons]
        exact ⟨_, rfl, rfl⟩
    obtain ⟨q', h1, h2⟩ := step
    obtain ⟨q2, h3, h4⟩ := fold_head (ps := r) h1
    exact ⟨q2, h3, h4.trans h2⟩
theorem joinL_front {a b c : Int} {ps : List Trp} {q : Trp} {r : List Trp} (hp : ps ≠ []) (e : joinL ps = q :: r) : ps.foldl joinS [(a, b, c)] = if q.2.2 = c then (a, q.2.1, c) :: r else (a, b, c) :: q :: r := by
  cases ps with
  | nil => exact absurd rfl hp
  | cons p t =>
    have e0 : joinL (p :: t) = t.foldl joinS [p] := rfl
    rw [e0] at e
    obtain ⟨q', h1, h2⟩ := fold_head (ps := t) (acc := [p]) (q := p) rfl
    rw [e] at h1
    cases h1
    rw [List.foldl_cons]
    have e1 : joinS [(a, b, c)] p = if c = p.2.2 then [(a, p.2.1, p.2.2)] else [(a, b, c), p] := rfl
    rw [e1, h2]
    by_cases z : p.2.2 = c
    · rw [if_pos z, if_pos z.symm]
      have z2 := fold_setF (x := a) (ps := t) (acc := [p]) (by simp)
      rw [e] at z2
      rw [show ([(a, p.2.1, p.2.2)] : List Trp) = setF a [p] from rfl, z2]
      show (a, q.2.1, q.2.2) :: r = _
      rw [h2, z]
    · rw [if_neg z, if_neg (fun e => z e.symm), fold_cons (by simp), e]
/-- all rows later -/
def shT (far : Int) (p : Trp) : Trp := (p.1 + far, p.2.1 + far, p.2.2)
theorem joinS_sh {far : Int} {acc : List Trp} {p : Trp} : joinS (acc.map (shT far)) (shT far p) = (joinS acc p).map (shT far) := by
  unfold joinS
  rw [List.getLast?_map]
  cases acc.getLast? with
  | none =>
    show acc.map _ ++ [_] = List.map _ (acc ++ [p])
    rw [List.map_append]
    rfl
  | some q =>
    show (if q.2.2 = p.2.2 then (acc.map (shT far)).dropLast ++ [(q.1 + far, p.2.1 + far, p.2.2)] else acc.map (shT far) ++ [shT far p]) = List.map (shT far) (if q.2.2 = p.2.2 then acc.dropLast ++ [(q.1, p.2.1, p.2.2)] else acc ++ [p])
    split
    · rw [List.map_append, List.map_dropLast]
      rfl
    · rw [List.map_append]
      rfl
theorem fold_sh {far : Int} : ∀ {ps acc : List Trp}, (ps.map (shT far)).foldl joinS (acc.map (shT far)) = (ps.foldl joinS acc).map (shT far)
  | [], _ => rfl
  | p :: r, acc => by
    rw [List.map_cons, List.foldl_cons, List.foldl_cons, joinS_sh, fold_sh]
end Vk
namespace Vk
open PySem PySem.Spec PyProof.Rows L2 GxR
/-- a job, later -/
def shA (far : Int) : PyData → PyData
  | .tuple [.str k, .int t] => .tuple [.str k, .int (if k = "at" then t + far else t)]
  | d => d
def shJ (far : Int) : PyData → PyData
  | .tuple [n, a, e] => .tuple [n, shA far a, e]
  | d => d
def shP (far : Int) (p : Int × Int) : Int × Int := (p.1 + far, p.2)
theorem shJ_ok {far : Int} (h0 : 0 ≤ far) {d : PyData} (h : jobD d = true) : jobD (shJ far d) = true := by
  obtain ⟨n, k, t, e, rfl, _, hk⟩ := job_parts h
  have h : (nameD (.str n) && (arrivalD (.tuple [.str k, .int t]) && (integerD 0 (.int e) && le9 (.int e)))) = true := h
  show (nameD (.str n) && (arrivalD (.tuple [.str k, .int (if k = "at" then t + far else t)]) && (integerD 0 (.int e) && le9 (.int e)))) = true
  obtain ⟨h1, h2⟩ := Bool.and_eq_true_iff.mp h
  obtain ⟨h2, h3⟩ := Bool.and_eq_true_iff.mp h2
  rw [h1, h3, Bool.true_and, Bool.and_true]
  rcases hk with rfl | rfl
  · rw [if_pos rfl]
    have z : integerD 0 (.int t) = true := h2
    exact arr_at (by have := of_decide_eq_true z; omega)
  · rw [if_neg (by decide +kernel)]
    exact h2
theorem shJ_all {js : List PyData} {far : Int} (h0 : 0 ≤ far) (ok : js.all jobD = true) : (js.map (shJ far)).all jobD = true := by
  rw [List.all_eq_true] at ok ⊢
  intro d hd
  obtain ⟨e, he, rfl⟩ := List.mem_map.mp hd
  exact shJ_ok h0 (ok e he)
theorem cnt_map {js : List PyData} {far : Int} {p q : PyData → Bool} (h : ∀ d ∈ js, p (arrD (shJ far d)) = q (arrD d)) : ((js.map (shJ far)).map arrD).countP p = (js.map arrD).countP q := by
  rw [List.map_map, List.countP_map, List.countP_map]
  exact List.countP_congr fun d hd => by
    have z := h d hd
    show p (arrD (shJ far d)) = true ↔ q (arrD d) = true
    rw [z]
theorem sh_count {js : List PyData} {far : Int} (ok : js.all jobD = true) {m f : Int} : countA (js.map (shJ far)) (m + far) f = countA js m f := by
  refine cnt_map fun d hd => ?_
  obtain ⟨n, k, t, e, rfl, _, hk⟩ := job_parts (List.all_eq_true.mp ok d hd)
  show reachA (m + far) f (.tuple [.str k, .int (if k = "at" then t + far else t)]) = reachA m f (.tuple [.str k, .int t])
  rcases hk with rfl | rfl
  · rw [if_pos rfl, reach_at, reach_at]
    exact decide_eq_decide.mpr (by omega)
  · rw [if_neg (by decide +kernel)]
    rfl
theorem sh_fine {js : List PyData} {far : Int} (ok : js.all jobD = true) (fn : Fine js) : Fine (js.map (shJ far)) := by
  constructor
  · have e : (js.map (shJ far)).map nameOf = js.map nameOf := by
      rw [List.map_map]
      refine List.map_congr_left fun d hd => ?_
      obtain ⟨n, k, t, e, rfl, _⟩ := job_parts (List.all_eq_true.mp ok d hd)
      rfl
    rw [e]
    exact fn.1
  · intro k t h
    obtain ⟨d2, hd2, e2⟩ := List.mem_map.mp h
    obtain ⟨d, hd, rfl⟩ := List.mem_map.mp hd2
    obtain ⟨n, k1, t1, e1, rfl, _, hk⟩ := job_parts (List.all_eq_true.mp ok d hd)
    have e2 : PyData.tuple [.str k1, .int (if k1 = "at" then t1 + far else t1)] = .tuple [.str k, .int t] := e2
    rcases hk with rfl | rfl
    · cases e2
      exact .inl rfl
    · rw [if_neg (by decide +kernel)] at e2
      cases e2
      have z := fn.2 "after" t (List.mem_map.mpr ⟨_, hd, rfl⟩)
      rw [show ((js.map (shJ far)).map arrD).countP (befA t) = (js.map arrD).countP (befA t) from cnt_map fun d hd => by
        obtain ⟨n, k2, t2, e3, rfl, _, hk2⟩ := job_parts (List.all_eq_true.mp ok d hd)
        show befA t (.tuple [.str k2, .int (if k2 = "at" then t2 + far else t2)]) = befA t (.tuple [.str k2, .int t2])
        rcases hk2 with rfl | rfl
        · rfl
        · rw [if_neg (by decide +kernel)]]
      exact z
theorem asc_sh {far : Int} (h0 : 0 ≤ far) : ∀ {lg : List (Int × Int)} {b b' : Int}, Asc b lg → b' ≤ b + far → Asc b' (lg.map (shP far))
  | [], _, _, _, _ => trivial
  | p :: r, b, b', h, hb => ⟨by have := h.1; show b' + 1 ≤ p.1 + far; omega, h.2.1, asc_sh h0 h.2.2 (Int.le_refl _)⟩
theorem sh_over {js : List PyData} {far : Int} (ok : js.all jobD = true) : ∀ {lg : List (Int × Int)} {f : Int} {i : Nat}, overAt (js.map (shJ far)) f i (lg.map (shP far)) = overAt js f i lg
  | [], _, _ => rfl
  | p :: r, f, i => by
    show (if presI (js.map (shJ far)) (p.1 + far) f < p.2 then some i else overAt (js.map (shJ far)) (f + p.2) (i + 1) (r.map (shP far))) = _
    have e : presI (js.map (shJ far)) (p.1 + far) f = presI js p.1 f := by
      unfold presI
      rw [show p.1 + far - 1 = (p.1 - 1) + far by omega, sh_count ok]
    rw [e, sh_over ok]
    rfl
theorem sh_done {lg : List (Int × Int)} {far m : Int} : doneBy (m + far) (lg.map (shP far)) = doneBy m lg := by
  unfold doneBy
  rw [List.filter_map, List.map_map]
  congr 2
  refine List.filter_congr fun p _ => ?_
  show decide (p.1 + far ≤ m + far) = decide (p.1 ≤ m)
  exact decide_eq_decide.mpr (by omega)
theorem sh_here {js : List PyData} {lg : List (Int × Int)} {far m : Int} (ok : js.all jobD = true) : hereM (js.map (shJ far)) (lg.map (shP far)) (m + far) = hereM js lg m := by
  unfold hereM
  rw [sh_done, sh_count ok]
theorem sh_empty {js : List PyData} {lg : List (Int × Int)} {far m : Int} (ok : js.all jobD = true) (asc : Asc 0 lg) (h : m < far) : hereM (js.map (shJ far)) (lg.map (shP far)) m = 0 := by
  have e1 : doneBy m (lg.map (shP far)) = 0 := by
    unfold doneBy
    rw [List.filter_eq_nil_iff.mpr (fun p hp => by
      obtain ⟨q, hq, rfl⟩ := List.mem_map.mp hp
      have z := asc_le asc q hq
      show ¬ decide (q.1 + far ≤ m) = true
      rw [decide_eq_false (by omega)]
      exact Bool.false_ne_true)]
    rfl
  have e2 : countA (js.map (shJ far)) m 0 = 0 := by
    unfold countA
    rw [List.countP_eq_zero]
    intro d2 hd2
    obtain ⟨d3, hd3, rfl⟩ := List.mem_map.mp hd2
    obtain ⟨d, hd, rfl⟩ := List.mem_map.mp hd3
    have hj := List.all_eq_true.mp ok d hd
    obtain ⟨n, k, t, e, rfl, _, hk⟩ := job_parts hj
    have z : (nameD (.str n) && (arrivalD (.tuple [.str k, .int t]) && (integerD 0 (.int e) && le9 (.int e)))) = true := hj
    obtain ⟨_, z⟩ := Bool.and_eq_true_iff.mp z
    obtain ⟨z, _⟩ := Bool.and_eq_true_iff.mp z
    show ¬ reachA m 0 (.tuple [.str k, .int (if k = "at" then t + far else t)]) = true
    rcases hk with rfl | rfl
    · have z : integerD 0 (.int t) = true := z
      have z := of_decide_eq_true z
      rw [if_pos rfl, reach_at, decide_eq_false (by omega)]
      exact Bool.false_ne_true
    · have z : integerD 1 (.int t) = true := z
      have z := of_decide_eq_true z
      rw [if_neg (by decide +kernel), reach_after, decide_eq_false (by omega)]
      exact Bool.false_ne_true
  unfold hereM
  rw [e1, e2]
  rfl
theorem endU_sh {far : Int} : ∀ {lg : List (Int × Int)} {b : Int}, lg ≠ [] → endU (b + far) (lg.map (shP far)) = endU b lg + far
  | [], _, h => absurd rfl h
  | [p], _, _ => rfl
  | p :: q :: r, b, _ => by
    show endU (p.1 + far) ((q :: r).map (shP far)) = endU p.1 (q :: r) + far
    exact endU_sh (by simp)
/-- the rows of jobs and a log that are later -/
theorem later_rows {js : List PyData} {lg : List (Int × Int)} {far : Int} (ok : js.all jobD = true) (asc : Asc 0 lg) (ne : lg ≠ []) (f1 : 1 ≤ far) {q : Trp} {r : List Trp} (e : rowsL js [] 0 0 lg = q :: r) :
    rowsL (js.map (shJ far)) [] 0 0 (lg.map (shP far)) = if q.2.2 = 0 then (1, q.2.1 + far, 0) :: r.map (shT far) else (1, far, 0) :: shT far q :: r.map (shT far) := by
  have h1 := rows_units js lg [] [] 0 asc (by simp)
  have asc2 : Asc 0 (lg.map (shP far)) := asc_sh (by omega) asc (by omega)
  have h2 := rows_units (js.map (shJ far)) (lg.map (shP far)) [] [] 0 asc2 (by simp)
  have e0 : ((([] : List (Int × Int)).map (·.2)).sum) = (0 : Int) := rfl
  rw [e0, List.nil_append] at h1 h2
  have lpos : 0 < endU 0 lg := by
    cases lg with
    | nil => exact absurd rfl ne
    | cons p t =>
      have z2 := asc_end_le asc.2.2
      have z3 := asc.1
      show 0 < endU p.1 t
      omega
  have en : endU 0 (lg.map (shP far)) = endU 0 lg + far := by
    cases lg with
    | nil => exact absurd rfl ne
    | cons p t =>
      show endU (p.1 + far) (t.map (shP far)) = endU p.1 t + far
      cases t with
      | nil => rfl
      | cons q s => exact endU_sh (by simp)
  rw [h2, en, show (endU 0 lg + far - 0).toNat = ((far - 1).toNat + 1) + (endU 0 lg - 0).toNat by omega, unitsF_add, List.foldl_append]
  rw [unitsF_const (c := 0) (fun i hi => sh_empty ok asc (by omega))]
  rw [show (0 : Int) + (((far - 1).toNat + 1 : Nat) : Int) = far by omega, show (0 : Int) + 1 + (((far - 1).toNat : Nat) : Int) = far by omega]
  have eU : unitsF (hereM (js.map (shJ far)) (lg.map (shP far))) far (endU 0 lg - 0).toNat = (unitsF (hereM js lg) 0 (endU 0 lg - 0).toNat).map (shT far) := by
    unfold unitsF
    rw [List.map_map]
    refine List.map_congr_left fun i _ => ?_
    show (far + 1 + (i : Int), far + 1 + (i : Int), hereM _ _ (far + (i : Int))) = (0 + 1 + (i : Int) + far, 0 + 1 + (i : Int) + far, hereM js lg (0 + (i : Int)))
    rw [show far + (i : Int) = (0 + (i : Int)) + far by omega, sh_here ok, show far + 1 + (i : Int) = 0 + 1 + (i : Int) + far by omega]
  rw [eU]
  have nU : unitsF (hereM js lg) 0 (endU 0 lg - 0).toNat ≠ [] := fun z => by
    have z2 := congrArg List.length z
    rw [unitsF_len] at z2
    replace z2 : (endU 0 lg - 0).toNat = 0 := z2
    omega
  have eR : joinL ((unitsF (hereM js lg) 0 (endU 0 lg - 0).toNat).map (shT far)) = shT far q :: r.map (shT far) := by
    unfold joinL
    have z := fold_sh (far := far) (ps := unitsF (hereM js lg) 0 (endU 0 lg - 0).toNat) (acc := [])
    rw [← h1, e] at z
    exact z
  have z := joinL_front (a := 1) (b := far) (c := 0) (ps := (unitsF (hereM js lg) 0 (endU 0 lg - 0).toNat).map (shT far)) (by simpa using nU) eR
  exact z
theorem shape_trs : ∀ ts : List Trp, PyData.canLayAll0 (ts.map trD) = true ∧ PyData.depthAll (ts.map trD) ≤ 3
  | [] => by simp [PyData.canLayAll0, PyData.depthAll]
  | t :: r => by
    obtain ⟨a, b⟩ := shape_trs r
    refine ⟨?_, ?_⟩
    · simp [PyData.canLayAll0, a, trD, PyData.canLay0]
    · simp [PyData.depthAll, trD, PyData.depth]
      omega
theorem shaped_trs (ts : List Trp) : SeqAt.shaped (.tuple (ts.map trD)) = true := by
  obtain ⟨a, b⟩ := shape_trs ts
  unfold SeqAt.shaped
  rw [show PyData.canLay0 (.tuple (ts.map trD)) = true from by simp [PyData.canLay0, a], Bool.true_and]
  refine decide_eq_true ?_
  simp [PyData.depth]
  omega
end Vk
/-! t[::-1] of a tuple: a new tuple -/
namespace Vk
open PySem PySem.Spec PyProof.Rows L2 HT PySem.Calls PyProof
section
variable {q : Program} {w : World} {B : Around} {XE : Value → Shared → Prop} {z : Shared}
/-- a slice with a step that is not 1 makes a new tuple of what it picks -/
theorem tup_stepped {t sl : Addr} {xs : Array Value} {lo st : Int} {n : Nat} {R : Value → Shared → Prop} (tt : IsTup z.heap t xs) (ts : z.TypeIs (.ref sl) "slice") (st1 : (st == 1) = false) (small : xs.size ≤ sizeLine)
    (ap : ∀ (A2 : Around) (R2 : Int × Int × Nat → Shared → Prop), R2 (lo, st, n) z → wpAny (model q w) A2 (Builtin.Slice.sliceApplied (.ref sl) (pure (xs.size : Int))) R2 XE z) {ys : Array Value} (pick : ((List.range n).filterMap fun (m : Nat) => xs[(lo + (m : Int) * st).toNat]?).toArray = ys) (le : ys.size ≤ xs.size)
    (k : R (.ref z.heap.objs.size) { z with heap := z.heap.push { cls := .type "tuple", data := .seq ys } }) : wpAny (model q w) B (getItem (.ref t) (.ref sl)) R XE z := by
  have fits : sizeOk (.seq ys) := Nat.le_trans le small
  unfold getItem
  refine wpAny_holding (wpAny_bind (wpAny_sequenceKey tt.typeIs (by decide) (wpAny_bind (wpAny_callSpecial?_slot (name := Str.ofString "__getitem__") tt.typeIs PyProof.Rows.slot_tuple_getitem (wpAny_call_entry PyProof.Rows.slot_tuple_getitem tt.typeIs entry_tuple_getitem ?_ (args_tuple_getitem _ _))))))
  refine wpAny_bind (m := Builtin.Tuple.tupleItemsOf (.ref t)) (tupleItemsOf_ tt (wpAny_bind (wpAny_typeOf ts ?_)))
  rw [if_pos (by decide)]
  refine wpAny_bind (ap _ _ ?_)
  have not1 : ¬ ((lo == 0 && st == 1 && n == xs.size) = true) := by rw [st1, Bool.and_false, Bool.false_and]; exact Bool.false_ne_true
  show wpAny _ _ (if (lo == 0 && st == 1 && n == xs.size) = true then _ else _) _ _ z
  rw [if_neg not1, pick]
  first
    | exact wpAny_bind (wpAny_newObj_type (wpAny_pure ⟨_, rfl, wpAny_pure k⟩) fits)
    | exact wpAny_bind (wpAny_newObj_type (wpAny_bind (wpAny_pure (wpAny_pure ⟨_, rfl, wpAny_pure k⟩))) fits)
    | exact wpAny_bind (wpAny_bind (wpAny_newObj_type (wpAny_pure (wpAny_pure ⟨_, rfl, wpAny_pure k⟩)) fits))
    | exact wpAny_bind (wpAny_bind (wpAny_newObj_type (wpAny_pure ⟨_, rfl, wpAny_pure k⟩) fits))
theorem rev_count (n : Nat) : Builtin.Slice.slicePlaces ((n : Int) - 1) (-1) (-1) = n := by
  show (if (-1 : Int) > 0 then _ else (if (n : Int) - 1 > -1 then ((n : Int) - 1 - -1 - 1) / (- -1) + 1 else 0) : Int).toNat = n
  rw [if_neg (show ¬ ((-1 : Int) > 0) from by omega)]
  by_cases pos : 0 < n
  · rw [if_pos (by omega), show (- -1 : Int) = 1 from by omega, Int.ediv_one]
    omega
  · rw [if_neg (by omega)]
    omega
theorem rev_ap {sl : Addr} {v : Value} {n : Nat} {R : Int × Int × Nat → Shared → Prop} (is : z.heap.IsSliceOf sl .none .none v) (pv : IsPart v (some (-1))) (k : R ((n : Int) - 1, -1, n) z) : wpAny (model q w) B (Builtin.Slice.sliceApplied (.ref sl) (pure (n : Int))) R XE z := by
  obtain ⟨o, o1, o2, o3⟩ := is
  refine wpAny_bind (m := Builtin.Slice.sliceFields (.ref sl)) (wpAny_bind (wpAny_field o1 o3 (x := .none) rfl (wpAny_bind (wpAny_field o1 o3 (x := .none) rfl (wpAny_bind (wpAny_field o1 o3 (x := v) rfl (wpAny_pure (wpAny_bind (slicePart_ pv ?_)))))))))
  show wpAny _ _ (if ((-1 : Int) == 0) = true then _ else _) _ _ z
  rw [if_neg (show ¬ ((-1 : Int) == 0) = true by decide)]
  refine wpAny_bind (slicePart_none (wpAny_bind (slicePart_none (wpAny_bind (wpAny_pure (wpAny_pure ?_))))))
  show R ((n : Int) - 1, -1, Builtin.Slice.slicePlaces ((n : Int) - 1) (-1) (-1)) z
  rw [rev_count]
  exact k
theorem rev_pick (xs : Array Value) : ((List.range xs.size).filterMap fun (m : Nat) => xs[(((xs.size : Nat) : Int) - 1 + (m : Int) * (-1)).toNat]?).toArray = xs.toList.reverse.toArray := by
  have e : (fun (m : Nat) => xs[(((xs.size : Nat) : Int) - 1 + (m : Int) * (-1)).toNat]?) = fun m => xs[xs.size - 1 - m]? := funext fun m => by rw [show (((xs.size : Nat) : Int) - 1 + (m : Int) * (-1)).toNat = xs.size - 1 - m from by omega]
  have e2 : (List.range xs.size).filterMap (fun m => xs[xs.size - 1 - m]?) = ((List.range xs.size).map fun m => xs.size - 1 - m).filterMap (xs[·]?) := (List.filterMap_map ..).symm
  rw [e, e2, PySem.W.krv_range, List.filterMap_reverse, PySem.W.krv_all]
end
def tRevT (K : PySem.W.Frag) (te : TE) : TE := fun σ H Q => te σ H fun x H1 => ∃ p vs, x = .ref p ∧ SqT K H1 p vs ∧ ∀ r, H1 r = none → Q (.ref r) (upd H1 r (.tup vs.reverse))
theorem pe_revT {X : Cx} {te : TE} {e : Expr} {n : Nat} {a1 a2 a3 a4 : Pos} (he : PE X e te) : PE X (.Subscript e (.Slice none none (some (.UnaryOp .USub (.Constant (.int 1) n a1) a2)) a3) a4) (tRevT X.K te) := by
  refine ⟨fun pins s σ H Q I h => Subscript_ (thn (he.run pins s σ H _ I h) fun v s1 ⟨x, H1, I1, rx, p, vs, ex, seq, go⟩ => ?_)⟩
  subst ex
  cases rx
  have step : PO X (some (.UnaryOp .USub (.Constant (.int 1) n a1) a2)) (tPart (tUn (rU fun i => .int (-i)) (tC (.int 1)))) := po_some (pe_un un_neg pe_int)
  refine wpAny_Slice (thn (po_none.run pins s1 σ H1 (fun o G => o = none ∧ G = H1) I1 ⟨rfl, rfl⟩) fun u1 s2 ⟨l1, G2, I2, q1, f1, g1⟩ => thn (po_none.run pins s2 σ G2 (fun o G => o = none ∧ G = G2) I2 ⟨rfl, rfl⟩) fun u2 s3 ⟨l2, G3, I3, q2, f2, g2⟩ => thn (step.run pins s3 σ G3 (fun o G => o = some (-1) ∧ G = G3) I3 ⟨1, rfl, -1, rfl, rfl, rfl⟩) fun u3 s4 ⟨l3, G4, I4, q3, f3, g3⟩ => ?_)
  subst f1 g1 f2 g2 f3 g3
  cases q1
  cases q2
  have J : Inv X pins σ G4 { s4 with heap := s4.heap.push { cls := .type "slice", data := .fields #[.none, .none, u3] } } := I4.kept (t' := s4.toks) fun _ _ y => Heap.get?_push_of_some _ y
  obtain ⟨its, rr, tt, sz⟩ := J.tuple seq
  show wpAny (model X.prog X.w) X.A (subscriptTail e (.Slice none none (some (.UnaryOp .USub (.Constant (.int 1) n a1) a2)) a3) (.ref p) (.ref s4.heap.objs.size)) (EP X pins σ Q) X.xe { s4 with heap := s4.heap.push { cls := .type "slice", data := .fields #[.none, .none, u3] } }
  have sl := Heap.IsSliceOf.new s4.heap .none .none u3
  refine tail_any (ops := [.ref p, .ref s4.heap.objs.size]) tt.typeIs PyProof.Rows.slot_tuple_getitem.lookup (tup_stepped tt ?_ rfl (by rw [List.size_toArray, ← rr.length]; exact sz) (fun _ R2 y => rev_ap sl q3 y) (rev_pick _) (by rw [List.size_toArray, List.length_reverse, Array.length_toList]; exact Nat.le_refl _) ?_) (by with_unfolding_all rfl)
  · obtain ⟨o, o1, o2, _⟩ := sl
    exact ⟨o, o1, o2⟩
  · exact ⟨.ref _, _, J.laid (t' := s4.toks) (o := .tup vs.reverse) (fun _ _ y => Heap.get?_push_of_some _ y) (Nat.le_refl _) ⟨by rw [List.length_reverse]; exact sz, _, rr.reverse, IsTup.new _ _⟩, rfl, go _ (J.hok.fresh (Nat.le_refl _))⟩
end Vk
namespace Vk
open PySem PySem.Spec PyProof.Rows L2 GxR
def LW (K : PySem.W.Frag) (sc a l : Addr) (v : V) (js : List PyData) (c wd n : Int) (H : Hp) (M : Nat) (σ : L2.St) (G : Hp) : Prop := ∃ (f u : Int) (xs : List V) (lg : List (Int × Int)) (u7 u8 u9 : Option V), (M : Int) + f = js.length ∧ σ = [some (.ref a), some v, some (.int c), some (.int wd), some (.ref l), some (.int f), some (.int u), u7, u8, u9, none, none, none] ∧
  Sto sc a (n + 5 * f) G ∧ Same (Off l (Off a H)) (Off l (Off a G)) ∧ G l = some (.lst xs) ∧ DpAll K (Off l (Off a G)) xs (lg.map pairP) ∧ 0 ≤ f ∧ 1 ≤ u ∧ f ≤ countA js (u - 1) f ∧ (lg.length : Int) ≤ f ∧ Asc 0 lg ∧ u ≤ 1000001 + 200 * f ∧ ∀ p ∈ lg, p.1 < u
section
variable {P : Program} {w : World} {K : PySem.W.Frag} {mg : Str → Option Value} {base : Heap}
def spLog (K : PySem.W.Frag) : Sp := fun vs H Q _ => ∃ (a sc : Addr) (n : Int) (v : V) (js : List PyData) (c wd : Int), vs = [.ref a, v, .int c, .int wd] ∧ Sto sc a n H ∧ n ≤ 800000 ∧ Dp K (Off a H) v (.tuple js) ∧ js.all jobD = true ∧ js.length ≤ 12 ∧ Fine js ∧ (∀ a ∈ js.map arrD, bnd a) ∧ 1 ≤ c ∧ 0 ≤ wd ∧ wd ≤ 100 ∧
  ∀ (t : V) (lg : List (Int × Int)) (H' : Hp), Sto sc a (n + 100) H' → Kept a H H' → Dp K (Off a H') t (.tuple (lg.map pairP)) → Asc 0 lg → lg.length ≤ 12 → (∀ p ∈ lg, p.1 ≤ 1002500) → Q t H'
theorem scLog : FnScope ["store", "jobs", "cores", "wide", "log", "finished", "unit", "moments", "many", "finishes", "name", "arrival", "door"] ["store", "jobs", "cores", "wide"] (defScope sLog) := ⟨rfl, rfl, rfl, by decide +kernel, rfl, by decide +kernel, by decide +kernel⟩
theorem ok_log (D : Df K mg "_law_log" sLog ["store", "jobs", "cores", "wide"]) (B : Blt mg) (mn : mg "min" = none) (PK : Cl P w K mg base CX0 2 "_law_pick" ["store", "count"] spPick) (PL : Cl P w K mg base CX0 1 "_law_present" ["jobs", "unit", "finished"] (spPresL K)) : Cl P w K mg base CX0 3 "_law_log" ["store", "jobs", "cores", "wide"] (spLog K) := by
  refine cl0 D scLog (fun vs H Q E h => ?_) (fun f cdv A outer s H vs Q E hr h => ?_)
  · obtain ⟨a, sc, n, v, js, c, wd, rfl, _⟩ := h
    rfl
  · obtain ⟨a, sc, n, v, js, c, wd, rfl, S, n1, dJ, okj, l12, fine, bd, c1, w0, w100, k⟩ := h
    refine ⟨_, pss_cons (ps_set (i := 4) scLog.nd rfl (Or.inl rfl) (pe_lst pa_nil))
      (pss_cons (ps_set (i := 5) scLog.nd rfl (Or.inl rfl) pe_int)
      (pss_cons (ps_set (i := 6) scLog.nd rfl (Or.inr rfl) pe_int)
      (pss_cons (ps_while PassesOwn.never (pt_cmpR op_lt (pv 5) (pe_callB call_len_seq (by rfl) B.len PySem.boot_len (pa_cons (pv 1) pa_nil)) (nomark _))
        (pss_cons (ps_setLc (i := 7) (own := [("name", 10), ("arrival", 11), ("door", 12)]) (g := gTup K 3 (gCons (gName 10) (gCons (gName 11) (gCons (gName 12) gNil)))) (tt := tAnd (tTest (tOp rEq (tOp (rIxT K) (tVar 11) (tC (.int 0))) (tC (.str "at")))) (tTest (tOp (rI0 fun i j => .bl (decide (j ≤ i))) (tOp (rIxT K) (tVar 11) (tC (.int 1))) (tVar 6)))) (te := tOp (rIxT K) (tVar 11) (tC (.int 1)))
            rfl scLog.nd rfl rfl (sw_true rfl rfl rfl (by decide +kernel)) (pi_tup (pv 1))
            (blkOk_by (own := [("name", 10), ("arrival", 11), ("door", 12)]) (N := ["store", "jobs", "cores", "wide", "log", "finished", "unit", "moments", "many", "finishes", "name", "arrival", "door"]) (sc := defScope sLog) (by decide +kernel))
            (fun _ _ _ _ _ => pg_tup rfl (pgs_cons (pg_name (i := 10) scLog.nd rfl (Or.inl rfl)) (pgs_cons (pg_name (i := 11) scLog.nd rfl (Or.inl rfl)) (pgs_cons (pg_name (i := 12) scLog.nd rfl (Or.inl rfl)) pgs_nil))))
            (fun _ _ _ _ _ => pts_one (PW.pt (pw_and (pt_cmpR op_eq (pe_ix ix_tup (pv 11) pe_int (fun _ _ => rfl)) pe_str (nomark _)) (pw_and1 (pt_cmpR op_ge (pe_ix ix_tup (pv 11) pe_int (fun _ _ => rfl)) (pv 6) (nomark _))))))
            (fun _ _ _ _ _ => pe_ix ix_tup (pv 11) pe_int (fun _ _ => rfl)))
        (pss_cons (ps_if (pt_cmpR op_eq (pc PL hr (by decide) (pa_cons (pv 1) (pa_cons (pv 6) (pa_cons (pv 5) pa_nil)))) pe_int (nomark _))
          (pss_one (ps_set (i := 6) scLog.nd rfl (Or.inr rfl) (pe_op op_add (pe_callB (cr_min rfl) (by rfl) mn (by decide +kernel) (pa_cons (pv 7) pa_nil)) pe_int))) pss_nil)
        (pss_cons (ps_set (i := 6) scLog.nd rfl (Or.inr rfl) (pe_op op_add (pv 6) (pe_ix ix_list (pe_lst (pa_cons pe_int (pa_cons (pc PK hr (by decide) (pa_cons (pv 0) (pa_cons pe_int pa_nil))) (pa_cons (pc PK hr (by decide) (pa_cons (pv 0) (pa_cons (pe_op op_add (pv 3) pe_int) pa_nil))) pa_nil)))) (pc PK hr (by decide) (pa_cons (pv 0) (pa_cons pe_int pa_nil))) (fun _ _ => rfl))))
        (pss_cons (ps_set (i := 8) scLog.nd rfl (Or.inl rfl) (pe_callB (call_min2 rfl) (by rfl) mn (by decide +kernel) (pa_cons (pv 2) (pa_cons (pc PL hr (by decide) (pa_cons (pv 1) (pa_cons (pv 6) (pa_cons (pv 5) pa_nil)))) pa_nil))))
        (pss_cons (ps_set (i := 9) scLog.nd rfl (Or.inl rfl) (pe_ix ix_list (pe_lst (pa_cons (pv 8) (pa_cons (pe_op op_add pe_int (pc PK hr (by decide) (pa_cons (pv 0) (pa_cons (pv 8) pa_nil)))) pa_nil))) (pc PK hr (by decide) (pa_cons (pv 0) (pa_cons pe_int pa_nil))) (fun _ _ => rfl)))
        (pss_cons (ps_expr (pe_bm PySem.F.plainAttrs_list PySem.F.slot_list_append PySem.F.type_list_append mt_append (pv 4) (pa_cons (pe_tup (pa_cons (pv 6) (pa_cons (pv 9) pa_nil))) pa_nil)))
        (pss_cons (ps_set (i := 5) scLog.nd rfl (Or.inl rfl) (pe_op op_add (pv 5) (pv 9)))
        (pss_one (ps_set (i := 6) scLog.nd rfl (Or.inr rfl) (pe_op op_add (pv 6) pe_int)))))))))))
      (pss_one (ps_ret (pe_callTy call_tuple_of (by rfl) B.tuple (by decide +kernel) (pa_cons (pv 4) pa_nil))))))), ?_⟩
    refine ⟨(by show 0 ≤ sizeLine; decide), fun l nl => ?_⟩
    have la : l ≠ a := S.ne nl
    have lsc : l ≠ sc := S.ne2 nl
    have dL : Dp K (Off l (Off a H)) v (.tuple js) := by
      rw [off_none (off_free nl)]
      exact dJ
    obtain ⟨pj, ys, rfl, qj, rj⟩ := dp_tuple dL
    have yl := dps_len rj
    refine ⟨LW K sc a l (.ref pj) js c wd n H, ⟨js.length, 0, 1, [], [], none, none, none, by omega, rfl, (S.same (same_new nl)).more (by omega), off_mono (off_mono (same_new nl)), upd_same, .nil, by omega, by omega, by omega, by simp, trivial, by omega, fun p hp => absurd hp (by simp)⟩, ?_⟩
    rintro M σ G ⟨fi, u, xs, lg, u7, u8, u9, hM, rfl, SG, KG, lG, dG, f0, u1, fc, lgl, asc, ub, lu⟩
    have sub : Same (Off l (Off a H)) G := KG.trans ((off_sub l (Off a G)).trans (off_sub a G))
    have qG := same_seqT sub qj
    have rG := dps_same sub rj
    have xl := dps_len dG
    rw [List.length_map] at xl
    refine ⟨_, rfl, _, rfl, pj, ys, rfl, .inr qG, _, _, rfl, rfl, _, rfl, ?_⟩
    rw [yl]
    refine ite2 (fun hlt => ?_) (fun hlt => ?_)
    case refine_2 =>
      have z : ¬ fi < js.length := fun z => hlt (decide_eq_true z)
      refine ⟨_, rfl, l, xs, rfl, .inl ⟨SqL.of lG, fun tp ntp => ?_⟩⟩
      have stp := same_new (o := .tup xs) ntp
      have tpa := SG.ne ntp
      refine k (.ref tp) lg _ ((SG.same stp).more (by omega)) ((kept_of_off nl KG).trans (kept_same stp)) (.tup (a := tp) (SqT.of ?_) (dps_same ((off_sub l _).trans (kept_same stp)) dG)) asc (by omega) (fun p hp => by have z := lu p hp; omega)
      rw [off_ne tpa, upd_same]
    have fl : fi < js.length := of_decide_eq_true hlt
    refine ⟨fun σ' G' => ∃ M', M' < M ∧ LW K sc a l (.ref pj) js c wd n H M' σ' G', fun σ' G' ⟨M', h1, h2⟩ => ⟨M', h1, h2⟩, ?_⟩
    -- moments
    refine ⟨_, rfl, pj, rfl, ⟨_, qG⟩, fun D1 nD1 => ?_⟩
    refine lc_it (walk_tup (K := K) (a := pj) (xs := ys)) (fun m Hc => Same G Hc ∧ Hc D1 = some (.lst ((((js.map arrD).take m).filterMap (atMom u)).map V.int)))
      ⟨same_new nD1, upd_same⟩ (fun m Hc _ ⟨s3, _⟩ => same_seqT s3 qG) ?_ ?_
    · rintro m y1 Hc0 Hc hm ⟨s3, hD⟩ ⟨rfl, hy1⟩
      obtain ⟨e1, he1, de1⟩ := dps_getV rG hy1
      obtain ⟨nm, k1, t1, x1, rfl, _, hk1⟩ := job_parts (List.all_eq_true.mp okj e1 (List.mem_of_getElem? he1))
      obtain ⟨p1, v1, v2, v3, rfl, q1, dv1, dv2, dv3⟩ := dp_three (dp_same s3 de1)
      obtain ⟨pa, kv, tv, rfl, qa, dk, dt⟩ := dp_two dv2
      have ek := dp_str dk
      subst ek
      have et := dp_int dt
      subst et
      have e2 : ((js.map arrD).take (m + 1)).filterMap (atMom u) = ((js.map arrD).take m).filterMap (atMom u) ++ (if k1 = "at" ∧ u ≤ t1 then [t1] else []) := by
        rw [List.take_add_one, List.getElem?_map, he1]
        show ((js.map arrD).take m ++ [PyData.tuple [.str k1, .int t1]]).filterMap (atMom u) = _
        rw [List.filterMap_append]
        congr 1
        rw [List.filterMap_cons, List.filterMap_nil, show atMom u (.tuple [.str k1, .int t1]) = (if k1 = "at" ∧ u ≤ t1 then some t1 else none) from rfl]
        by_cases z : k1 = "at" ∧ u ≤ t1
        · rw [if_pos z, if_pos z]
        · rw [if_neg z, if_neg z]
      have small : (((js.map arrD).take m).filterMap (atMom u)).length ≤ 12 := by
        have z := List.length_filterMap_le (atMom u) ((js.map arrD).take m)
        rw [List.length_take, List.length_map] at z
        omega
      refine ⟨p1, _, rfl, q1, rfl, _, _, rfl, _, _, rfl, _, _, rfl, rfl, rfl, ?_⟩
      refine ⟨_, rfl, pa, _, _, _, rfl, rfl, qa, rfl, rfl, _, rfl, ?_⟩
      rw [eq_S (s := ("at" : Str)) dk]
      have skip : ¬ (k1 = "at" ∧ u ≤ t1) → Same G Hc ∧ Hc D1 = some (.lst ((((js.map arrD).take (m + 1)).filterMap (atMom u)).map V.int)) := fun z => by
        rw [e2, if_neg z, List.append_nil]
        exact ⟨s3, hD⟩
      refine ite2 (fun hz => ?_) (fun hz => iteF (skip fun z => hz (by rw [z.1]; rfl)))
      have hk : k1 = "at" := by
        rcases hk1 with e | e
        · exact e
        · rw [e] at hz
          exact absurd hz (by decide +kernel)
      refine ⟨_, rfl, pa, _, _, _, rfl, rfl, qa, rfl, _, rfl, _, _, rfl, rfl, _, rfl, ?_⟩
      refine ite2 (fun ht => ?_) (fun ht => skip fun z => ht (decide_eq_true z.2))
      refine ⟨_, rfl, pa, _, _, _, rfl, rfl, qa, rfl, _, hD, ?_, same_put s3 nD1, ?_⟩
      · rw [List.length_map]
        exact Nat.lt_of_le_of_lt small (by decide)
      · rw [upd_same, e2, if_pos ⟨hk, of_decide_eq_true ht⟩, List.map_append]
        rfl
    rintro Hd ⟨s3, hD⟩
    rw [yl, ← List.length_map (f := arrD), List.take_length] at hD
    have mems := fun t => mem_moms (js := js) (u := u) (t := t)
    generalize (js.map arrD).filterMap (atMom u) = ms at hD mems
    refine ⟨_, rfl, _, rfl, _, rfl, .ref pj, js, u, fi, rfl, dp_same s3 (.tup qG rG), okj, by omega, fun G1 s4 => ?_⟩
    have s34 := s3.trans s4
    refine ⟨rfl, _, rfl, ?_⟩
    apply cutR (α := L2.St → Hp → Prop) (F := fun R => ∀ u' : Int, u ≤ u' → fi + 1 ≤ countA js (u' - 1) fi → u' ≤ 1000001 + 200 * fi → R [some (.ref a), some (.ref pj), some (.int c), some (.int wd), some (.ref l), some (.int fi), some (.int u'), some (.ref D1), u8, u9, none, none, none] G1)
    · intro cont
      have pe : presI js u fi = (countA js (u - 1) fi : Int) - fi := rfl
      refine ite2 (fun hz => ?_) (fun hz => ?_)
      · have p0 : presI js u fi = 0 := V.int.inj (of_decide_eq_true hz)
        have mpos : 0 < ms.length := by
          obtain ⟨t, ht, hu⟩ := some_at okj fine (m := u - 1) f0 fl (by omega)
          exact List.length_pos_of_mem ((mems t).mpr ⟨ht, by omega⟩)
        refine ⟨_, rfl, D1, ms, rfl, SqL.of (s4.at hD), mpos, fun m hm _ => ?_⟩
        obtain ⟨h1, h2⟩ := (mems m).mp hm
        have z := count_more (m := u - 1) (m' := m + 1 - 1) (f := fi) h1 (by omega) (by omega)
        have hb := bd _ h1 _ _ rfl
        exact ⟨_, _, rfl, rfl, cont (m + 1) (by omega) (by omega) (by omega)⟩
      · have p0 : presI js u fi ≠ 0 := fun e => hz (decide_eq_true (by rw [e]))
        exact cont u (Int.le_refl _) (by omega) ub
    intro u' uu fc' ub'
    have SG1 := SG.same s34
    refine ⟨_, rfl, _, rfl, a, sc, 3, _, rfl, by decide, by decide, SG1, by omega, fun r1 G2 r10 r13 S2 K2 => ?_⟩
    refine ⟨_, rfl, _, rfl, _, _, rfl, rfl, a, sc, wd + 1, _, rfl, by omega, by omega, S2, by omega, fun r2 G3 r20 r23 S3 K3 => ?_⟩
    refine ⟨(by show 3 ≤ sizeLine; decide), fun q nq => ?_⟩
    have sq := same_new (o := .lst [.int 0, .int r1, .int r2]) nq
    have qa := S3.ne nq
    refine ⟨_, rfl, a, sc, 3, _, rfl, by decide, by decide, S3.same sq, by omega, fun z G4 z0 z3 S4 K4 => ?_⟩
    obtain ⟨av, hav, vav⟩ := atI_three (x0 := .int 0) (x1 := .int r1) (x2 := .int r2) z0 z3
    refine ⟨q, _, _, av, rfl, rfl, SqL.of (K4.at upd_same qa), hav, ?_⟩
    obtain ⟨ai, ai0, ai1, rfl⟩ : ∃ ai : Int, 0 ≤ ai ∧ ai ≤ 101 ∧ av = .int ai := by
      rcases vav with rfl | rfl | rfl
      · exact ⟨_, by decide, by decide, rfl⟩
      · exact ⟨_, r10, by omega, rfl⟩
      · exact ⟨_, r20, by omega, rfl⟩
    refine ⟨_, _, rfl, rfl, ?_⟩
    have KA : Kept a G G4 := (((kept_same s34).trans K2).trans (K3.trans (kept_same sq))).trans K4
    have subA : Same (Off l (Off a H)) G4 := KG.trans ((off_sub l (Off a G)).trans (Same.trans KA (off_sub a G4)))
    refine ⟨_, rfl, _, rfl, _, rfl, _, rfl, .ref pj, js, u' + ai, fi, rfl, dp_same subA (.tup qj rj), okj, by omega, fun G5 s5 => ?_⟩
    have pe : presI js (u' + ai) fi = (countA js (u' + ai - 1) fi : Int) - fi := rfl
    have cm := count_mono (js := js) (m := u' - 1) (m' := u' + ai - 1) (f := fi) (f' := fi) (by omega) (Int.le_refl _)
    refine ⟨_, _, rfl, ?_⟩
    rw [run_min]
    have hrun : 1 ≤ runI js (u' + ai) fi c ∧ runI js (u' + ai) fi c ≤ presI js (u' + ai) fi := ⟨by unfold runI; split <;> omega, run_le⟩
    generalize runI js (u' + ai) fi c = many at hrun
    have S5 := S4.same s5
    have cl := count_le js (u' + ai - 1) fi
    have K5 : Kept a G G5 := KA.trans (kept_same s5)
    -- finishes
    refine ⟨_, rfl, _, rfl, _, rfl, a, sc, many, _, rfl, by omega, by omega, S5, by omega, fun r3 G6 r30 r33 S6 K6 => ?_⟩
    refine ⟨_, _, rfl, rfl, (by show 2 ≤ sizeLine; decide), fun q2 nq2 => ?_⟩
    have sq2 := same_new (o := .lst [.int many, .int (1 + r3)]) nq2
    have q2a := S6.ne nq2
    refine ⟨_, rfl, a, sc, 2, _, rfl, by decide, by decide, S6.same sq2, by omega, fun z2 G7 z20 z22 S7 K7 => ?_⟩
    obtain ⟨fv, hfv, mfv⟩ := atI_mem (xs := [V.int many, .int (1 + r3)]) z20 (by simpa using z22)
    refine ⟨q2, _, _, fv, rfl, rfl, SqL.of (K7.at upd_same q2a), hfv, ?_⟩
    obtain ⟨fs, fs1, fsm, rfl⟩ : ∃ fs : Int, 1 ≤ fs ∧ fs ≤ many ∧ fv = .int fs := by
      simp only [List.mem_cons, List.not_mem_nil, or_false] at mfv
      rcases mfv with rfl | rfl
      · exact ⟨_, by omega, by omega, rfl⟩
      · exact ⟨_, by omega, by omega, rfl⟩
    have K57 : Kept a G G7 := (K5.trans (K6.trans (kept_same sq2))).trans K7
    have lG7 := K57.at lG la
    -- log.append((unit, finishes))
    refine ⟨_, rfl, .inl ⟨rfl, _, SqL.of lG7⟩, ?_⟩
    refine ⟨_, rfl, _, rfl, (by show 2 ≤ sizeLine; decide), fun t nt => ?_⟩
    have st := same_new (o := .tup [.int (u' + ai), .int fs]) nt
    have ta := S7.ne nt
    have tl : t ≠ l := fun e => by rw [e, lG7] at nt; cases nt
    have KB : Kept a G (upd G7 t (.tup [.int (u' + ai), .int fs])) := K57.trans (kept_same st)
    have offs : Off l (Off a (upd (upd G7 t (.tup [.int (u' + ai), .int fs])) l (.lst (xs ++ [.ref t])))) = Off l (Off a (upd G7 t (.tup [.int (u' + ai), .int fs]))) := by rw [off_other la, off_upd]
    refine ⟨l, _, _, rfl, rfl, st.at lG7, ?_, ?_⟩
    · rw [xl]
      exact Nat.lt_of_le_of_lt (show lg.length ≤ 12 by omega) (by decide)
    refine ⟨_, rfl, _, rfl, _, _, rfl, rfl, _, rfl, _, _, rfl, rfl, ?_⟩
    refine ⟨(M : Int).toNat - fs.toNat, by omega, fi + fs, u' + ai + 1, xs ++ [.ref t], lg ++ [(u' + ai, fs)], _, _, _, by omega, rfl, ((S7.same st).other la lsc).more (by omega), ?_, upd_same, ?_, by omega, by omega, ?_, ?_, asc_end asc (fun p hp => by have z := lu p hp; omega) (by omega) fs1, by omega, ?_⟩
    · rw [offs]
      exact KG.trans (off_mono KB)
    · rw [offs, List.map_append]
      refine dps_app (dps_same (off_mono KB) dG) (.cons (.tup (a := t) (SqT.of ?_) (.cons (.int _) (.cons (.int _) .nil))) .nil)
      rw [off_ne tl, off_ne ta, upd_same]
    · have z := count_mono (js := js) (m := u' + ai - 1) (m' := u' + ai + 1 - 1) (f := fi) (f' := fi + fs) (by omega) (by omega)
      omega
    · rw [List.length_append, List.length_singleton]
      omega
    · intro p hp
      rcases List.mem_append.mp hp with hp | hp
      · have z := lu p hp
        omega
      · rw [List.mem_singleton.mp hp]
        show u' + ai < u' + ai + 1
        omega
end
end Vk
namespace Vk
open PySem PySem.Spec PyProof.Rows L2 GxR
/-- units up to B -/
def uD (B : Int) : PyData → Prop
  | .tuple (.int u :: _) => u ≤ B
  | _ => True
def uB (B : Int) : PyData → Prop
  | .tuple ds => ∀ d ∈ ds, uD B d
  | _ => True
theorem uPairs {B C : Int} {lg : List (Int × Int)} (h : ∀ p ∈ lg, p.1 ≤ B) (hc : B ≤ C) : ∀ d ∈ lg.map pairP, uD C d := by
  intro d hd
  obtain ⟨p, hp, rfl⟩ := List.mem_map.mp hd
  have z := h p hp
  show p.1 ≤ C
  omega
theorem uA {B : Int} {xs ys : List PyData} (h1 : ∀ d ∈ xs, uD B d) (h2 : ∀ d ∈ ys, uD B d) : ∀ d ∈ xs ++ ys, uD B d := fun d hd => (List.mem_append.mp hd).elim (h1 d) (h2 d)
theorem uT {B : Int} {xs : List PyData} {n : Nat} (h : ∀ d ∈ xs, uD B d) : ∀ d ∈ xs.take n, uD B d := fun d hd => h d (List.mem_of_mem_take hd)
theorem uDr {B : Int} {xs : List PyData} {n : Nat} (h : ∀ d ∈ xs, uD B d) : ∀ d ∈ xs.drop n, uD B d := fun d hd => h d (List.mem_of_mem_drop hd)
theorem u1 {B : Int} {x : PyData} (h : uD B x) : ∀ d ∈ [x], uD B d := fun d hd => by
  rw [List.mem_singleton.mp hd]
  exact h
theorem dps_rev {K : PySem.W.Frag} {H : Hp} : ∀ {vs : List V} {ds : List PyData}, DpAll K H vs ds → DpAll K H vs.reverse ds.reverse
  | _, _, .nil => .nil
  | _, _, .cons h r => by
    rw [List.reverse_cons, List.reverse_cons]
    exact dps_app (dps_rev r) (.cons h .nil)
section
variable {P : Program} {w : World} {K : PySem.W.Frag} {mg : Str → Option Value} {base : Heap}
def spBadLog (K : PySem.W.Frag) : Sp := fun vs H Q _ => ∃ (a sc l : Addr) (n : Int) (v : V) (lg : List (Int × Int)), vs = [.ref a, v] ∧ Sto sc a n H ∧ H l ≠ none ∧ n ≤ 900000 ∧ Dp K (Of2 l a H) v (.tuple (lg.map pairP)) ∧ lg.length ≤ 100 ∧ ∃ b : Int, 1 ≤ b ∧ (∀ p ∈ lg, p.1 ≤ b) ∧
  ∀ (v' : V) (d' : PyData) (H' : Hp), Sto sc a (n + 10) H' → Kept a H H' → Dp K (Of2 l a H') v' d' → lenLog d' ≤ lg.length + 1 → uB (b + 1) d' → Q v' H'
theorem scBadLog : FnScope ["store", "log", "at", "unit", "finishes", "pairs", "way"] ["store", "log"] (defScope sBadLog) := ⟨rfl, rfl, rfl, by decide +kernel, rfl, by decide +kernel, by decide +kernel⟩
theorem ok_badLog (D : Df K mg "_law_bad_log" sBadLog ["store", "log"]) (B : Blt mg) (PK : Cl P w K mg base CX0 2 "_law_pick" ["store", "count"] spPick) : Cl P w K mg base CX0 3 "_law_bad_log" ["store", "log"] (spBadLog K) := by
  refine cl0 D scBadLog (fun vs H Q E h => ?_) (fun f cdv A outer s H vs Q E hr h => ?_)
  · obtain ⟨a, sc, l, n, v, lg, rfl, _⟩ := h
    rfl
  · obtain ⟨a, sc, l, n, v, lg, rfl, S, hl, n1, hd, l100, b, b1, hb, k⟩ := h
    have hu : ∀ d ∈ lg.map pairP, uD (b + 1) d := uPairs hb (by omega)
    refine ⟨_, (pss_cons (ps_if (pt_cmpR (op_eqNilT (Nat.lt_of_succ_lt (hu_of hr))) (pv 1) (pe_tup pa_nil) (nomark _)) (pss_one (ps_ret (pe_ix ix_list (pe_lst (pa_cons (pe_lst pa_nil) (pa_cons pe_non (pa_cons (pe_tup (pa_cons (pe_tup (pa_cons pe_int (pa_cons pe_int pa_nil))) pa_nil)) (pa_cons (pe_tup (pa_cons (pe_tup (pa_cons pe_int (pa_cons pe_int pa_nil))) pa_nil)) (pa_cons (pe_tup (pa_cons (pe_tup (pa_cons pe_int (pa_cons pe_int pa_nil))) pa_nil)) pa_nil)))))) (pc PK hr (by decide) (pa_cons (pv 0) (pa_cons pe_int pa_nil))) (fun _ _ => rfl)))) pss_nil)
      (pss_cons (ps_set (i := 2) scBadLog.nd rfl (Or.inl rfl) (pc PK hr (by decide) (pa_cons (pv 0) (pa_cons (pe_callB call_len_seq (by rfl) B.len PySem.boot_len (pa_cons (pv 1) pa_nil)) pa_nil))))
      (pss_cons (ps_asg (pe_ix ix_tup (pv 1) (pv 2) (fun _ _ => rfl)) (pg_tup rfl (pgs_cons (pg_name (i := 3) scBadLog.nd rfl (.inl rfl)) (pgs_cons (pg_name (i := 4) scBadLog.nd rfl (.inl rfl)) pgs_nil))))
      (pss_cons (ps_set (i := 5) scBadLog.nd rfl (Or.inl rfl) (pe_lst (pa_cons (pe_tup (pa_cons (pv 3) (pa_cons pe_int pa_nil))) (pa_cons (pe_tup (pa_cons (pv 3) (pa_cons (pe_un un_neg pe_int) pa_nil))) (pa_cons (pe_tup (pa_cons (pv 3) (pa_cons pe_bl pa_nil))) (pa_cons (pe_tup (pa_cons pe_int (pa_cons (pv 4) pa_nil))) (pa_cons (pe_tup (pa_cons pe_bl (pa_cons (pv 4) pa_nil))) (pa_cons (pe_tup (pa_cons (pe_un un_neg pe_int) (pa_cons (pv 4) pa_nil))) (pa_cons (pe_tup (pa_cons (pv 3) pa_nil)) pa_nil)))))))))
      (pss_cons (ps_set (i := 5) scBadLog.nd rfl (Or.inl rfl) (pe_op op_cat (pv 5) (pe_lst (pa_cons (pe_lst (pa_cons (pv 3) (pa_cons (pv 4) pa_nil))) (pa_cons (pe_tup (pa_cons (pv 3) (pa_cons (pv 4) (pa_cons pe_int pa_nil)))) (pa_cons pe_non (pa_cons (pe_tup (pa_cons (pv 3) (pa_cons pe_non pa_nil))) (pa_cons (pe_tup (pa_cons pe_str (pa_cons (pv 4) pa_nil))) pa_nil))))))))
      (pss_cons (ps_set (i := 5) scBadLog.nd rfl (Or.inl rfl) (pe_op op_cat (pv 5) (pe_lst (pa_cons (pe_tup (pa_cons (pv 3) (pa_cons (pe_op op_add (pv 4) pe_int) pa_nil))) (pa_cons (pe_tup (pa_cons (pe_op op_add (pv 3) pe_int) (pa_cons (pv 4) pa_nil))) pa_nil)))))
      (pss_cons (ps_set (i := 6) scBadLog.nd rfl (Or.inl rfl) (pc PK hr (by decide) (pa_cons (pv 0) (pa_cons pe_int pa_nil))))
      (pss_cons (ps_if (pt_cmpR op_eq (pv 6) pe_int (nomark _)) (pss_one (ps_ret (pe_op op_catA (pe_slice sl_tupA (pv 1) po_none (po_some (pv 2))) (pe_slice sl_tupA (pv 1) (po_some (pe_op op_add (pv 2) pe_int)) po_none)))) pss_nil)
      (pss_cons (ps_if (pt_cmpR op_eq (pv 6) pe_int (nomark _)) (pss_one (ps_ret (pe_op op_catA (pe_op op_catA (pe_slice sl_tupA (pv 1) po_none (po_some (pv 2))) (pe_tup (pa_cons (pe_ix ix_tup (pv 1) (pv 2) (fun _ _ => rfl)) pa_nil))) (pe_slice sl_tupA (pv 1) (po_some (pv 2)) po_none)))) pss_nil)
      (pss_cons (ps_if (pt_cmpR op_eq (pv 6) pe_int (nomark _)) (pss_one (ps_ret (pe_ix ix_list (pe_lst (pa_cons (pe_callTy call_list_of (by rfl) B.list (by decide +kernel) (pa_cons (pv 1) pa_nil)) (pa_cons (pe_revT (pv 1)) (pa_cons (pe_op op_catA (pv 1) (pe_tup (pa_cons (pe_tup (pa_cons (pe_op op_add (pe_ix ix_tup (pe_ix ix_tup (pv 1) (pe_un un_neg pe_int) (fun _ _ => rfl)) pe_int (fun _ _ => rfl)) pe_int) (pa_cons pe_int pa_nil))) pa_nil))) (pa_cons (pe_op op_catA (pe_slice sl_tupA (pv 1) (po_some pe_int) po_none) (pe_slice sl_tupA (pv 1) po_none (po_some pe_int))) pa_nil))))) (pc PK hr (by decide) (pa_cons (pv 0) (pa_cons pe_int pa_nil))) (fun _ _ => rfl)))) pss_nil)
      (pss_one (ps_ret (pe_op op_catA (pe_op op_catA (pe_slice sl_tupA (pv 1) po_none (po_some (pv 2))) (pe_tup (pa_cons (pe_ix ix_list (pv 5) (pc PK hr (by decide) (pa_cons (pv 0) (pa_cons pe_int pa_nil))) (fun _ _ => rfl)) pa_nil))) (pe_slice sl_tupA (pv 1) (po_some (pe_op op_add (pv 2) pe_int)) po_none)))))))))))))), ?_⟩
    obtain ⟨pj, xs, rfl, qj, rj⟩ := dp_tuple hd
    have xl := dps_len rj
    rw [List.length_map] at xl
    refine ⟨_, rfl, (by show 0 ≤ sizeLine; decide), fun e0 ne0 => ?_⟩
    have se := same_new (o := .tup []) ne0
    have S0 := S.same se
    have hd0 := dp_up2 (K := K) se hd
    have qj0 : SqT K (Of2 l a (upd H e0 (.tup []))) pj xs := same_seqT (of2_mono se) qj
    have rj0 := dps_same (of2_mono se) rj
    refine ⟨pj, e0, xs, rfl, rfl, same_seqT (of2_sub l a _) qj0, SqT.of upd_same, _, rfl, ?_⟩
    cases he : xs.isEmpty with
    | true =>
      refine iteT ?_
      have hA := has2 (l := l) S0 (kept_same se) hl
      generalize upd H e0 (.tup []) = H0 at S0 se hA qj0 rj0 hd0 ⊢
      have fg0 : Same H0 H0 := Same.refl H0
      refine ⟨(by show 0 ≤ sizeLine; decide), fun ft1 fm1 => ?_⟩
      have fd1 := new_lst2 (K := K) (vs := []) (fg0.has2 hA) fm1 .nil
      have fs1 := same_new (o := .lst []) fm1
      have fg1 := fg0.trans fs1
      refine ⟨(by show 2 ≤ sizeLine; decide), fun ft2 fm2 => ?_⟩
      have fd2 := new_tup2 (K := K) (vs := [.int 1, .int 1]) (fg1.has2 hA) fm2 (.cons (.int _) (.cons (.int _) .nil))
      have fs2 := same_new (o := .tup [.int 1, .int 1]) fm2
      have fg2 := fg1.trans fs2
      have fd1 := dp_up2 (K := K) fs2 fd1
      refine ⟨(by show 1 ≤ sizeLine; decide), fun ft3 fm3 => ?_⟩
      have fd3 := new_tup2 (K := K) (vs := [.ref ft2]) (fg2.has2 hA) fm3 (.cons fd2 .nil)
      have fs3 := same_new (o := .tup [.ref ft2]) fm3
      have fg3 := fg2.trans fs3
      have fd1 := dp_up2 (K := K) fs3 fd1
      have fd2 := dp_up2 (K := K) fs3 fd2
      refine ⟨(by show 2 ≤ sizeLine; decide), fun ft4 fm4 => ?_⟩
      have fd4 := new_tup2 (K := K) (vs := [.int 0, .int 1]) (fg3.has2 hA) fm4 (.cons (.int _) (.cons (.int _) .nil))
      have fs4 := same_new (o := .tup [.int 0, .int 1]) fm4
      have fg4 := fg3.trans fs4
      have fd1 := dp_up2 (K := K) fs4 fd1
      have fd2 := dp_up2 (K := K) fs4 fd2
      have fd3 := dp_up2 (K := K) fs4 fd3
      refine ⟨(by show 1 ≤ sizeLine; decide), fun ft5 fm5 => ?_⟩
      have fd5 := new_tup2 (K := K) (vs := [.ref ft4]) (fg4.has2 hA) fm5 (.cons fd4 .nil)
      have fs5 := same_new (o := .tup [.ref ft4]) fm5
      have fg5 := fg4.trans fs5
      have fd1 := dp_up2 (K := K) fs5 fd1
      have fd2 := dp_up2 (K := K) fs5 fd2
      have fd3 := dp_up2 (K := K) fs5 fd3
      have fd4 := dp_up2 (K := K) fs5 fd4
      refine ⟨(by show 2 ≤ sizeLine; decide), fun ft6 fm6 => ?_⟩
      have fd6 := new_tup2 (K := K) (vs := [.int 1, .int 0]) (fg5.has2 hA) fm6 (.cons (.int _) (.cons (.int _) .nil))
      have fs6 := same_new (o := .tup [.int 1, .int 0]) fm6
      have fg6 := fg5.trans fs6
      have fd1 := dp_up2 (K := K) fs6 fd1
      have fd2 := dp_up2 (K := K) fs6 fd2
      have fd3 := dp_up2 (K := K) fs6 fd3
      have fd4 := dp_up2 (K := K) fs6 fd4
      have fd5 := dp_up2 (K := K) fs6 fd5
      refine ⟨(by show 1 ≤ sizeLine; decide), fun ft7 fm7 => ?_⟩
      have fd7 := new_tup2 (K := K) (vs := [.ref ft6]) (fg6.has2 hA) fm7 (.cons fd6 .nil)
      have fs7 := same_new (o := .tup [.ref ft6]) fm7
      have fg7 := fg6.trans fs7
      have fd1 := dp_up2 (K := K) fs7 fd1
      have fd2 := dp_up2 (K := K) fs7 fd2
      have fd3 := dp_up2 (K := K) fs7 fd3
      have fd4 := dp_up2 (K := K) fs7 fd4
      have fd5 := dp_up2 (K := K) fs7 fd5
      have fd6 := dp_up2 (K := K) fs7 fd6
      refine ⟨(by show 5 ≤ sizeLine; decide), fun ft8 fm8 => ?_⟩
      have fd8 := new_lst2 (K := K) (vs := [.ref ft1, .non, .ref ft3, .ref ft5, .ref ft7]) (fg7.has2 hA) fm8 (.cons fd1 (.cons .non (.cons fd3 (.cons fd5 (.cons fd7 .nil)))))
      have fs8 := same_new (o := .lst [.ref ft1, .non, .ref ft3, .ref ft5, .ref ft7]) fm8
      have fg8 := fg7.trans fs8
      have fd1 := dp_up2 (K := K) fs8 fd1
      have fd2 := dp_up2 (K := K) fs8 fd2
      have fd3 := dp_up2 (K := K) fs8 fd3
      have fd4 := dp_up2 (K := K) fs8 fd4
      have fd5 := dp_up2 (K := K) fs8 fd5
      have fd6 := dp_up2 (K := K) fs8 fd6
      have fd7 := dp_up2 (K := K) fs8 fd7
      refine ⟨_, rfl, a, sc, 5, _, rfl, by decide, by decide, S0.same fg8, by omega, fun r H1 r0 r4 S1 K1 => ?_⟩
      obtain ⟨p, ys, x, xd, e, qp, hx, mx, dx⟩ := pick_dp (dp_same (of2_kept K1) fd8) r0 r4
      cases e
      refine ⟨_, _, _, _, rfl, rfl, qp, hx, k x xd H1 (S1.more (by omega)) ((kept_same (se.trans fg8)).trans K1) dx ?_ ?_⟩
      · simp only [List.mem_cons, List.not_mem_nil, or_false] at mx
        rcases mx with rfl | rfl | rfl | rfl | rfl <;> (show _ ≤ _; exact Nat.le_trans (by decide) (Nat.le_add_left 1 _))
      · simp only [List.mem_cons, List.not_mem_nil, or_false] at mx
        rcases mx with rfl | rfl | rfl | rfl | rfl
        · exact trivial
        · exact trivial
        · exact u1 (show (1 : Int) ≤ b + 1 by omega)
        · exact u1 (show (0 : Int) ≤ b + 1 by omega)
        · exact u1 (show (1 : Int) ≤ b + 1 by omega)
    | false =>
      refine iteF ?_
      have jpos : 1 ≤ lg.length := by
        cases xs with
        | nil => cases he
        | cons x r =>
          rw [← xl, List.length_cons]
          omega
      have K0 : Kept a H (upd H e0 (.tup [])) := kept_same se
      generalize upd H e0 (.tup []) = H0 at S0 K0 se qj0 rj0 hd0 ⊢
      -- at
      refine ⟨_, rfl, _, rfl, pj, xs, rfl, .inr (same_seqT (of2_sub l a H0) qj0), a, sc, _, n, rfl, by omega, by omega, S0, by omega, fun at_ H1 at0 at1 S1 K1 => ?_⟩
      obtain ⟨ix, rfl⟩ := Int.eq_ofNat_of_zero_le at0
      have rj1 := dps_same (of2_kept K1) rj0
      have qj1 : SqT K (Of2 l a H1) pj xs := same_seqT (of2_kept K1) qj0
      have hd1 := dp_same (of2_kept K1) hd0
      obtain ⟨lv, ld, hat, hld, dld⟩ := atI_dp (r := (ix : Int)) rj1 at0 (by rw [List.length_map]; omega)
      rw [List.getElem?_map] at hld
      obtain ⟨⟨un, fi⟩, hun, rfl⟩ := Option.map_eq_some_iff.mp hld
      have unb : un ≤ b := hb _ (List.mem_of_getElem? hun)
      have dpr := dld
      obtain ⟨lp, uv, fv, rfl, qlp, du, df⟩ := dp_two dld
      have eu := dp_int du
      subst eu
      have ef := dp_int df
      subst ef
      refine ⟨_, rfl, _, rfl, pj, xs, _, _, rfl, rfl, same_seqT (of2_sub l a H1) qj1, hat, lp, _, rfl, same_seqT (of2_sub l a H1) qlp, rfl, _, _, rfl, _, _, rfl, rfl, ?_⟩
      have hA := has2 (l := l) S1 (K0.trans K1) hl
      -- pairs
      have cg0 : Same H1 H1 := Same.refl H1
      refine ⟨_, rfl, (by show 2 ≤ sizeLine; decide), fun ct1 cm1 => ?_⟩
      have cd1 := new_tup2 (K := K) (vs := [.int un, .int 0]) (cg0.has2 hA) cm1 (.cons (.int _) (.cons (.int _) .nil))
      have cs1 := same_new (o := .tup [.int un, .int 0]) cm1
      have cg1 := cg0.trans cs1
      refine ⟨_, rfl, _, rfl, (by show 2 ≤ sizeLine; decide), fun ct2 cm2 => ?_⟩
      have cd2 := new_tup2 (K := K) (vs := [.int un, .int (-1)]) (cg1.has2 hA) cm2 (.cons (.int _) (.cons (.int _) .nil))
      have cs2 := same_new (o := .tup [.int un, .int (-1)]) cm2
      have cg2 := cg1.trans cs2
      have cd1 := dp_up2 (K := K) cs2 cd1
      refine ⟨_, rfl, (by show 2 ≤ sizeLine; decide), fun ct3 cm3 => ?_⟩
      have cd3 := new_tup2 (K := K) (vs := [.int un, .bl true]) (cg2.has2 hA) cm3 (.cons (.int _) (.cons (.bl _) .nil))
      have cs3 := same_new (o := .tup [.int un, .bl true]) cm3
      have cg3 := cg2.trans cs3
      have cd1 := dp_up2 (K := K) cs3 cd1
      have cd2 := dp_up2 (K := K) cs3 cd2
      refine ⟨_, rfl, (by show 2 ≤ sizeLine; decide), fun ct4 cm4 => ?_⟩
      have cd4 := new_tup2 (K := K) (vs := [.int 0, .int fi]) (cg3.has2 hA) cm4 (.cons (.int _) (.cons (.int _) .nil))
      have cs4 := same_new (o := .tup [.int 0, .int fi]) cm4
      have cg4 := cg3.trans cs4
      have cd1 := dp_up2 (K := K) cs4 cd1
      have cd2 := dp_up2 (K := K) cs4 cd2
      have cd3 := dp_up2 (K := K) cs4 cd3
      refine ⟨_, rfl, (by show 2 ≤ sizeLine; decide), fun ct5 cm5 => ?_⟩
      have cd5 := new_tup2 (K := K) (vs := [.bl true, .int fi]) (cg4.has2 hA) cm5 (.cons (.bl _) (.cons (.int _) .nil))
      have cs5 := same_new (o := .tup [.bl true, .int fi]) cm5
      have cg5 := cg4.trans cs5
      have cd1 := dp_up2 (K := K) cs5 cd1
      have cd2 := dp_up2 (K := K) cs5 cd2
      have cd3 := dp_up2 (K := K) cs5 cd3
      have cd4 := dp_up2 (K := K) cs5 cd4
      refine ⟨_, rfl, _, rfl, (by show 2 ≤ sizeLine; decide), fun ct6 cm6 => ?_⟩
      have cd6 := new_tup2 (K := K) (vs := [.int (-1), .int fi]) (cg5.has2 hA) cm6 (.cons (.int _) (.cons (.int _) .nil))
      have cs6 := same_new (o := .tup [.int (-1), .int fi]) cm6
      have cg6 := cg5.trans cs6
      have cd1 := dp_up2 (K := K) cs6 cd1
      have cd2 := dp_up2 (K := K) cs6 cd2
      have cd3 := dp_up2 (K := K) cs6 cd3
      have cd4 := dp_up2 (K := K) cs6 cd4
      have cd5 := dp_up2 (K := K) cs6 cd5
      refine ⟨_, rfl, (by show 1 ≤ sizeLine; decide), fun ct7 cm7 => ?_⟩
      have cd7 := new_tup2 (K := K) (vs := [.int un]) (cg6.has2 hA) cm7 (.cons (.int _) .nil)
      have cs7 := same_new (o := .tup [.int un]) cm7
      have cg7 := cg6.trans cs7
      have cd1 := dp_up2 (K := K) cs7 cd1
      have cd2 := dp_up2 (K := K) cs7 cd2
      have cd3 := dp_up2 (K := K) cs7 cd3
      have cd4 := dp_up2 (K := K) cs7 cd4
      have cd5 := dp_up2 (K := K) cs7 cd5
      have cd6 := dp_up2 (K := K) cs7 cd6
      refine ⟨(by show 7 ≤ sizeLine; decide), fun ct8 cm8 => ?_⟩
      have cd8 := new_lst2 (K := K) (vs := [.ref ct1, .ref ct2, .ref ct3, .ref ct4, .ref ct5, .ref ct6, .ref ct7]) (cg7.has2 hA) cm8 (.cons cd1 (.cons cd2 (.cons cd3 (.cons cd4 (.cons cd5 (.cons cd6 (.cons cd7 .nil)))))))
      have cs8 := same_new (o := .lst [.ref ct1, .ref ct2, .ref ct3, .ref ct4, .ref ct5, .ref ct6, .ref ct7]) cm8
      have cg8 := cg7.trans cs8
      have cd1 := dp_up2 (K := K) cs8 cd1
      have cd2 := dp_up2 (K := K) cs8 cd2
      have cd3 := dp_up2 (K := K) cs8 cd3
      have cd4 := dp_up2 (K := K) cs8 cd4
      have cd5 := dp_up2 (K := K) cs8 cd5
      have cd6 := dp_up2 (K := K) cs8 cd6
      have cd7 := dp_up2 (K := K) cs8 cd7
      have hM := new_at cs8
      refine ⟨_, rfl, _, rfl, _, rfl, (by show 2 ≤ sizeLine; decide), fun ct9 cm9 => ?_⟩
      have cd9 := new_lst2 (K := K) (vs := [.int un, .int fi]) (cg8.has2 hA) cm9 (.cons (.int _) (.cons (.int _) .nil))
      have cs9 := same_new (o := .lst [.int un, .int fi]) cm9
      have cg9 := cg8.trans cs9
      have cd1 := dp_up2 (K := K) cs9 cd1
      have cd2 := dp_up2 (K := K) cs9 cd2
      have cd3 := dp_up2 (K := K) cs9 cd3
      have cd4 := dp_up2 (K := K) cs9 cd4
      have cd5 := dp_up2 (K := K) cs9 cd5
      have cd6 := dp_up2 (K := K) cs9 cd6
      have cd7 := dp_up2 (K := K) cs9 cd7
      have cd8 := dp_up2 (K := K) cs9 cd8
      have hM := cs9.at hM
      refine ⟨_, rfl, _, rfl, (by show 3 ≤ sizeLine; decide), fun ct10 cm10 => ?_⟩
      have cd10 := new_tup2 (K := K) (vs := [.int un, .int fi, .int 0]) (cg9.has2 hA) cm10 (.cons (.int _) (.cons (.int _) (.cons (.int _) .nil)))
      have cs10 := same_new (o := .tup [.int un, .int fi, .int 0]) cm10
      have cg10 := cg9.trans cs10
      have cd1 := dp_up2 (K := K) cs10 cd1
      have cd2 := dp_up2 (K := K) cs10 cd2
      have cd3 := dp_up2 (K := K) cs10 cd3
      have cd4 := dp_up2 (K := K) cs10 cd4
      have cd5 := dp_up2 (K := K) cs10 cd5
      have cd6 := dp_up2 (K := K) cs10 cd6
      have cd7 := dp_up2 (K := K) cs10 cd7
      have cd8 := dp_up2 (K := K) cs10 cd8
      have hM := cs10.at hM
      have cd9 := dp_up2 (K := K) cs10 cd9
      refine ⟨_, rfl, (by show 2 ≤ sizeLine; decide), fun ct11 cm11 => ?_⟩
      have cd11 := new_tup2 (K := K) (vs := [.int un, .non]) (cg10.has2 hA) cm11 (.cons (.int _) (.cons .non .nil))
      have cs11 := same_new (o := .tup [.int un, .non]) cm11
      have cg11 := cg10.trans cs11
      have cd1 := dp_up2 (K := K) cs11 cd1
      have cd2 := dp_up2 (K := K) cs11 cd2
      have cd3 := dp_up2 (K := K) cs11 cd3
      have cd4 := dp_up2 (K := K) cs11 cd4
      have cd5 := dp_up2 (K := K) cs11 cd5
      have cd6 := dp_up2 (K := K) cs11 cd6
      have cd7 := dp_up2 (K := K) cs11 cd7
      have cd8 := dp_up2 (K := K) cs11 cd8
      have hM := cs11.at hM
      have cd9 := dp_up2 (K := K) cs11 cd9
      have cd10 := dp_up2 (K := K) cs11 cd10
      refine ⟨_, rfl, (by show 2 ≤ sizeLine; decide), fun ct12 cm12 => ?_⟩
      have cd12 := new_tup2 (K := K) (vs := [.str ("1" : Str), .int fi]) (cg11.has2 hA) cm12 (.cons (.str _) (.cons (.int _) .nil))
      have cs12 := same_new (o := .tup [.str ("1" : Str), .int fi]) cm12
      have cg12 := cg11.trans cs12
      have cd1 := dp_up2 (K := K) cs12 cd1
      have cd2 := dp_up2 (K := K) cs12 cd2
      have cd3 := dp_up2 (K := K) cs12 cd3
      have cd4 := dp_up2 (K := K) cs12 cd4
      have cd5 := dp_up2 (K := K) cs12 cd5
      have cd6 := dp_up2 (K := K) cs12 cd6
      have cd7 := dp_up2 (K := K) cs12 cd7
      have cd8 := dp_up2 (K := K) cs12 cd8
      have hM := cs12.at hM
      have cd9 := dp_up2 (K := K) cs12 cd9
      have cd10 := dp_up2 (K := K) cs12 cd10
      have cd11 := dp_up2 (K := K) cs12 cd11
      refine ⟨(by show 5 ≤ sizeLine; decide), fun ct13 cm13 => ?_⟩
      have cd13 := new_lst2 (K := K) (vs := [.ref ct9, .ref ct10, .non, .ref ct11, .ref ct12]) (cg12.has2 hA) cm13 (.cons cd9 (.cons cd10 (.cons .non (.cons cd11 (.cons cd12 .nil)))))
      have cs13 := same_new (o := .lst [.ref ct9, .ref ct10, .non, .ref ct11, .ref ct12]) cm13
      have cg13 := cg12.trans cs13
      have cd1 := dp_up2 (K := K) cs13 cd1
      have cd2 := dp_up2 (K := K) cs13 cd2
      have cd3 := dp_up2 (K := K) cs13 cd3
      have cd4 := dp_up2 (K := K) cs13 cd4
      have cd5 := dp_up2 (K := K) cs13 cd5
      have cd6 := dp_up2 (K := K) cs13 cd6
      have cd7 := dp_up2 (K := K) cs13 cd7
      have cd8 := dp_up2 (K := K) cs13 cd8
      have hM := cs13.at hM
      have cd9 := dp_up2 (K := K) cs13 cd9
      have cd10 := dp_up2 (K := K) cs13 cd10
      have cd11 := dp_up2 (K := K) cs13 cd11
      have cd12 := dp_up2 (K := K) cs13 cd12
      have hM2 := new_at cs13
      refine ⟨ct8, ct13, _, _, rfl, rfl, hM, hM2, (by show 7 + 5 ≤ sizeLine; decide), fun ct14 cm14 => ?_⟩
      have cd14 := new_lst2 (K := K) (vs := ([.ref ct1, .ref ct2, .ref ct3, .ref ct4, .ref ct5, .ref ct6, .ref ct7] ++ [.ref ct9, .ref ct10, .non, .ref ct11, .ref ct12])) (cg13.has2 hA) cm14 (.cons cd1 (.cons cd2 (.cons cd3 (.cons cd4 (.cons cd5 (.cons cd6 (.cons cd7 (.cons cd9 (.cons cd10 (.cons .non (.cons cd11 (.cons cd12 .nil))))))))))))
      have cs14 := same_new (o := .lst ([.ref ct1, .ref ct2, .ref ct3, .ref ct4, .ref ct5, .ref ct6, .ref ct7] ++ [.ref ct9, .ref ct10, .non, .ref ct11, .ref ct12])) cm14
      have cg14 := cg13.trans cs14
      have cd1 := dp_up2 (K := K) cs14 cd1
      have cd2 := dp_up2 (K := K) cs14 cd2
      have cd3 := dp_up2 (K := K) cs14 cd3
      have cd4 := dp_up2 (K := K) cs14 cd4
      have cd5 := dp_up2 (K := K) cs14 cd5
      have cd6 := dp_up2 (K := K) cs14 cd6
      have cd7 := dp_up2 (K := K) cs14 cd7
      have cd8 := dp_up2 (K := K) cs14 cd8
      have hM := cs14.at hM
      have cd9 := dp_up2 (K := K) cs14 cd9
      have cd10 := dp_up2 (K := K) cs14 cd10
      have cd11 := dp_up2 (K := K) cs14 cd11
      have cd12 := dp_up2 (K := K) cs14 cd12
      have cd13 := dp_up2 (K := K) cs14 cd13
      have hM2 := cs14.at hM2
      have hM3 := new_at cs14
      refine ⟨_, rfl, _, rfl, _, rfl, _, _, rfl, rfl, (by show 2 ≤ sizeLine; decide), fun ct15 cm15 => ?_⟩
      have cd15 := new_tup2 (K := K) (vs := [.int un, .int (fi + 1)]) (cg14.has2 hA) cm15 (.cons (.int _) (.cons (.int _) .nil))
      have cs15 := same_new (o := .tup [.int un, .int (fi + 1)]) cm15
      have cg15 := cg14.trans cs15
      have cd1 := dp_up2 (K := K) cs15 cd1
      have cd2 := dp_up2 (K := K) cs15 cd2
      have cd3 := dp_up2 (K := K) cs15 cd3
      have cd4 := dp_up2 (K := K) cs15 cd4
      have cd5 := dp_up2 (K := K) cs15 cd5
      have cd6 := dp_up2 (K := K) cs15 cd6
      have cd7 := dp_up2 (K := K) cs15 cd7
      have cd9 := dp_up2 (K := K) cs15 cd9
      have cd10 := dp_up2 (K := K) cs15 cd10
      have cd11 := dp_up2 (K := K) cs15 cd11
      have cd12 := dp_up2 (K := K) cs15 cd12
      have hM3 := cs15.at hM3
      refine ⟨_, rfl, _, _, rfl, rfl, _, rfl, (by show 2 ≤ sizeLine; decide), fun ct16 cm16 => ?_⟩
      have cd16 := new_tup2 (K := K) (vs := [.int (un + 1), .int fi]) (cg15.has2 hA) cm16 (.cons (.int _) (.cons (.int _) .nil))
      have cs16 := same_new (o := .tup [.int (un + 1), .int fi]) cm16
      have cg16 := cg15.trans cs16
      have cd1 := dp_up2 (K := K) cs16 cd1
      have cd2 := dp_up2 (K := K) cs16 cd2
      have cd3 := dp_up2 (K := K) cs16 cd3
      have cd4 := dp_up2 (K := K) cs16 cd4
      have cd5 := dp_up2 (K := K) cs16 cd5
      have cd6 := dp_up2 (K := K) cs16 cd6
      have cd7 := dp_up2 (K := K) cs16 cd7
      have cd9 := dp_up2 (K := K) cs16 cd9
      have cd10 := dp_up2 (K := K) cs16 cd10
      have cd11 := dp_up2 (K := K) cs16 cd11
      have cd12 := dp_up2 (K := K) cs16 cd12
      have hM3 := cs16.at hM3
      have cd15 := dp_up2 (K := K) cs16 cd15
      refine ⟨(by show 2 ≤ sizeLine; decide), fun ct17 cm17 => ?_⟩
      have cd17 := new_lst2 (K := K) (vs := [.ref ct15, .ref ct16]) (cg16.has2 hA) cm17 (.cons cd15 (.cons cd16 .nil))
      have cs17 := same_new (o := .lst [.ref ct15, .ref ct16]) cm17
      have cg17 := cg16.trans cs17
      have cd1 := dp_up2 (K := K) cs17 cd1
      have cd2 := dp_up2 (K := K) cs17 cd2
      have cd3 := dp_up2 (K := K) cs17 cd3
      have cd4 := dp_up2 (K := K) cs17 cd4
      have cd5 := dp_up2 (K := K) cs17 cd5
      have cd6 := dp_up2 (K := K) cs17 cd6
      have cd7 := dp_up2 (K := K) cs17 cd7
      have cd9 := dp_up2 (K := K) cs17 cd9
      have cd10 := dp_up2 (K := K) cs17 cd10
      have cd11 := dp_up2 (K := K) cs17 cd11
      have cd12 := dp_up2 (K := K) cs17 cd12
      have hM3 := cs17.at hM3
      have cd15 := dp_up2 (K := K) cs17 cd15
      have cd16 := dp_up2 (K := K) cs17 cd16
      have hM4 := new_at cs17
      refine ⟨ct14, ct17, _, _, rfl, rfl, hM3, hM4, (by show 12 + 2 ≤ sizeLine; decide), fun ct18 cm18 => ?_⟩
      have cd18 := new_lst2 (K := K) (vs := (([.ref ct1, .ref ct2, .ref ct3, .ref ct4, .ref ct5, .ref ct6, .ref ct7] ++ [.ref ct9, .ref ct10, .non, .ref ct11, .ref ct12]) ++ [.ref ct15, .ref ct16])) (cg17.has2 hA) cm18 (.cons cd1 (.cons cd2 (.cons cd3 (.cons cd4 (.cons cd5 (.cons cd6 (.cons cd7 (.cons cd9 (.cons cd10 (.cons .non (.cons cd11 (.cons cd12 (.cons cd15 (.cons cd16 .nil))))))))))))))
      have cs18 := same_new (o := .lst (([.ref ct1, .ref ct2, .ref ct3, .ref ct4, .ref ct5, .ref ct6, .ref ct7] ++ [.ref ct9, .ref ct10, .non, .ref ct11, .ref ct12]) ++ [.ref ct15, .ref ct16])) cm18
      have cg18 := cg17.trans cs18
      have cd1 := dp_up2 (K := K) cs18 cd1
      have cd2 := dp_up2 (K := K) cs18 cd2
      have cd3 := dp_up2 (K := K) cs18 cd3
      have cd4 := dp_up2 (K := K) cs18 cd4
      have cd5 := dp_up2 (K := K) cs18 cd5
      have cd6 := dp_up2 (K := K) cs18 cd6
      have cd7 := dp_up2 (K := K) cs18 cd7
      have cd9 := dp_up2 (K := K) cs18 cd9
      have cd10 := dp_up2 (K := K) cs18 cd10
      have cd11 := dp_up2 (K := K) cs18 cd11
      have cd12 := dp_up2 (K := K) cs18 cd12
      have hM3 := cs18.at hM3
      have cd15 := dp_up2 (K := K) cs18 cd15
      have cd16 := dp_up2 (K := K) cs18 cd16
      have cd17 := dp_up2 (K := K) cs18 cd17
      have hM4 := cs18.at hM4
      obtain ⟨pds, dP, lP, uP⟩ : ∃ pds, Dp K (Of2 l a _) (.ref ct18) (.list pds) ∧ pds.length = 14 ∧ ∀ d ∈ pds, uD (b + 1) d := ⟨_, cd18, rfl, by
        intro d hd
        simp only [List.mem_append, List.mem_cons, List.not_mem_nil, or_false] at hd
        (repeat' (refine Or.elim hd (fun hd => ?_) (fun hd => ?_))) <;> subst hd <;> first | exact trivial | (show (_ : Int) ≤ b + 1; omega)⟩
      -- way
      refine ⟨_, rfl, a, sc, 5, _, rfl, by decide, by decide, S1.same cg18, by omega, fun way H5 w0 w5 S5 K5 => ?_⟩
      have K15 : Kept a H1 H5 := (kept_same cg18).trans K5
      have K05 := (K0.trans K1).trans K15
      have dP5 := dp_same (of2_kept K5) dP
      have hd5 := dp_same (of2_kept K15) hd1
      have dpr5 := dp_same (of2_kept K15) dpr
      have rj5 := dps_same (of2_kept K15) rj1
      have qj5 : SqT K (Of2 l a H5) pj xs := same_seqT (of2_kept K15) qj1
      have hA5 := has2 (l := l) S5 K05 hl
      have e1 : HT.sIx (lg.map pairP).length (lg.map pairP).length (some (ix : Int)) = ix := by rw [HT.sIx_nat, List.length_map]; omega
      have e2 : HT.sIx (lg.map pairP).length 0 (some ((ix : Int) + 1)) = ix + 1 := by
        show HT.sIx (lg.map pairP).length 0 (some ((ix + 1 : Nat) : Int)) = ix + 1
        rw [HT.sIx_nat, List.length_map]
        omega
      have e3 : HT.sIx (lg.map pairP).length 0 none = 0 := rfl
      have e4 : HT.sIx (lg.map pairP).length (lg.map pairP).length none = (lg.map pairP).length := rfl
      have e5 : HT.sIx (lg.map pairP).length 0 (some (ix : Int)) = ix := by rw [HT.sIx_nat, List.length_map]; omega
      have ll : (lg.map pairP).length = lg.length := List.length_map ..
      clear hM hM2 hM3 hM4 K5 K15 K0 K1 hd0 hd1 rj0 rj1 qj0 qj1 dpr dP
      refine ⟨_, rfl, rfl, _, rfl, ite2 (fun _ => ?_) (fun _ => ?_)⟩
      · -- a pair left out
        refine ⟨_, rfl, _, rfl, _, rfl, slice_go2 hA5 hd5 (fun z1 G1 s1 d1 => ?_)⟩
        rw [e1, e3] at d1
        refine ⟨_, rfl, _, rfl, _, _, rfl, rfl, _, rfl, ?_⟩
        dsimp only [tNoPart]
        refine slice_go2 (s1.has2 hA5) (dp_up2 s1 hd5) (fun z4 G4 s4 d4 => ?_)
        rw [e2, e4] at d4
        refine cat_go2 (s4.has2 (s1.has2 hA5)) (dp_up2 s4 d1) d4 ?_ (fun z5 G5 s5 d5 => ?_)
        · simp only [List.length_take, List.length_drop, ll]
          omega
        have sAll := (s1.trans s4).trans s5
        refine k _ _ _ ((S5.same sAll).more (by omega)) (K05.trans (kept_same sAll)) d5 ?_ (uA (uT (uDr hu)) (uT (uDr hu)))
        show List.length _ ≤ _
        simp only [List.length_append, List.length_take, List.length_drop, ll]
        omega
      refine ⟨_, rfl, rfl, _, rfl, ite2 (fun _ => ?_) (fun _ => ?_)⟩
      · -- a pair twice
        refine ⟨_, rfl, _, rfl, _, rfl, slice_go2 hA5 hd5 (fun z1 G1 s1 d1 => ?_)⟩
        rw [e1, e3] at d1
        refine ⟨_, rfl, _, rfl, pj, xs, _, _, rfl, rfl, same_seqT s1 (same_seqT (of2_sub l a H5) qj5), hat, (by show 1 ≤ sizeLine; decide), fun t2 m2 => ?_⟩
        have d2 := new_tup2 (K := K) (vs := [.ref lp]) (s1.has2 hA5) m2 (.cons (dp_up2 s1 dpr5) .nil)
        have s2 := same_new (o := .tup [.ref lp]) m2
        refine cat_go2 (s2.has2 (s1.has2 hA5)) (dp_up2 s2 d1) d2 ?_ (fun z3 G3 s3 d3 => ?_)
        · simp only [List.length_take, List.length_drop, List.length_cons, List.length_nil, ll]
          omega
        refine ⟨_, rfl, _, rfl, _, rfl, ?_⟩
        dsimp only [tNoPart]
        have s123 := (s1.trans s2).trans s3
        refine slice_go2 (s123.has2 hA5) (dp_up2 s123 hd5) (fun z4 G4 s4 d4 => ?_)
        rw [e5, e4] at d4
        refine cat_go2 (s4.has2 (s123.has2 hA5)) (dp_up2 s4 d3) d4 ?_ (fun z5 G5 s5 d5 => ?_)
        · simp only [List.length_append, List.length_take, List.length_drop, List.length_cons, List.length_nil, ll]
          omega
        have sAll := (s123.trans s4).trans s5
        refine k _ _ _ ((S5.same sAll).more (by omega)) (K05.trans (kept_same sAll)) d5 ?_ (uA (uA (uT (uDr hu)) (u1 (show un ≤ b + 1 by omega))) (uT (uDr hu)))
        show List.length _ ≤ _
        simp only [List.length_append, List.length_take, List.length_drop, List.length_cons, List.length_nil, ll]
        omega
      refine ⟨_, rfl, rfl, _, rfl, ite2 (fun _ => ?_) (fun _ => ?_)⟩
      · -- another form
        have q5 := same_seqT (of2_sub l a H5) qj5
        refine ⟨_, rfl, pj, xs, rfl, .inr q5, fun t1 m1 => ?_⟩
        have d1 := new_lst2 (K := K) (vs := xs) hA5 m1 rj5
        have s1 := same_new (o := .lst xs) m1
        refine ⟨_, rfl, pj, xs, rfl, same_seqT s1 q5, fun t2 m2 => ?_⟩
        have d2 := new_tup2 (K := K) (vs := xs.reverse) (s1.has2 hA5) m2 (dps_rev (dps_same (of2_mono s1) rj5))
        have s2 := same_new (o := .tup xs.reverse) m2
        have d1 := dp_up2 (K := K) s2 d1
        have s12 := s1.trans s2
        -- log + ((log[-1][0] + 1, 1),)
        have hxl : xs[xs.length - 1]? = some xs[xs.length - 1] := List.getElem?_eq_getElem (by omega)
        obtain ⟨dl, hdl, ddl⟩ := dps_getV rj5 hxl
        rw [List.getElem?_map] at hdl
        obtain ⟨⟨u9, f9⟩, h9, rfl⟩ := Option.map_eq_some_iff.mp hdl
        have u9b : u9 ≤ b := hb _ (List.mem_of_getElem? h9)
        generalize xs[xs.length - 1] = lv9 at hxl ddl
        obtain ⟨lp9, uv9, fv9, rfl, qlp9, du9, _⟩ := dp_two ddl
        have eu9 := dp_int du9
        subst eu9
        refine ⟨_, rfl, _, rfl, _, rfl, pj, xs, _, _, rfl, rfl, same_seqT s12 q5, by rw [atI_last (by omega)]; exact hxl, lp9, _, _, _, rfl, rfl, same_seqT s12 (same_seqT (of2_sub l a H5) qlp9), rfl, _, _, rfl, rfl, (by show 2 ≤ sizeLine; decide), fun t3 m3 => ?_⟩
        have d3 := new_tup2 (K := K) (vs := [.int (u9 + 1), .int 1]) (s12.has2 hA5) m3 (.cons (.int _) (.cons (.int _) .nil))
        have s3 := same_new (o := .tup [.int (u9 + 1), .int 1]) m3
        have d1 := dp_up2 (K := K) s3 d1
        have d2 := dp_up2 (K := K) s3 d2
        have s13 := s12.trans s3
        refine ⟨(by show 1 ≤ sizeLine; decide), fun t4 m4 => ?_⟩
        have d4 := new_tup2 (K := K) (vs := [.ref t3]) (s13.has2 hA5) m4 (.cons d3 .nil)
        have s4 := same_new (o := .tup [.ref t3]) m4
        have d1 := dp_up2 (K := K) s4 d1
        have d2 := dp_up2 (K := K) s4 d2
        have s14 := s13.trans s4
        refine cat_go2 (s14.has2 hA5) (dp_up2 s14 hd5) d4 ?_ (fun z5 G5 s5 d5 => ?_)
        · simp only [List.length_cons, List.length_nil, ll]
          omega
        have d1 := dp_up2 (K := K) s5 d1
        have d2 := dp_up2 (K := K) s5 d2
        have s15 := s14.trans s5
        -- log[1:] + log[:1]
        refine ⟨_, rfl, _, rfl, ?_⟩
        dsimp only [tNoPart]
        refine slice_go2 (s15.has2 hA5) (dp_up2 s15 hd5) (fun z6 G6 s6 d6 => ?_)
        have d1 := dp_up2 (K := K) s6 d1
        have d2 := dp_up2 (K := K) s6 d2
        have d5 := dp_up2 (K := K) s6 d5
        have s16 := s15.trans s6
        refine ⟨_, rfl, _, rfl, slice_go2 (s16.has2 hA5) (dp_up2 s16 hd5) (fun z7 G7 s7 d7 => ?_)⟩
        have d1 := dp_up2 (K := K) s7 d1
        have d2 := dp_up2 (K := K) s7 d2
        have d5 := dp_up2 (K := K) s7 d5
        have s17 := s16.trans s7
        have f1 : HT.sIx (lg.map pairP).length (lg.map pairP).length (some ((1 : Nat) : Int)) = 1 := by rw [HT.sIx_nat, List.length_map]; omega
        have f2 : HT.sIx (lg.map pairP).length 0 (some ((1 : Nat) : Int)) = 1 := by rw [HT.sIx_nat, List.length_map]; omega
        replace d6 : Dp K (Of2 l a G6) z6 (.tuple (((lg.map pairP).drop (HT.sIx (lg.map pairP).length 0 (some ((1 : Nat) : Int)))).take ((lg.map pairP).length - HT.sIx (lg.map pairP).length 0 (some ((1 : Nat) : Int))))) := d6
        replace d7 : Dp K (Of2 l a G7) z7 (.tuple (((lg.map pairP).drop 0).take (HT.sIx (lg.map pairP).length (lg.map pairP).length (some ((1 : Nat) : Int)) - 0))) := d7
        rw [f2] at d6
        rw [f1] at d7
        refine cat_go2 (s17.has2 hA5) (dp_up2 s7 d6) d7 ?_ (fun z8 G8 s8 d8 => ?_)
        · simp only [List.length_take, List.length_drop, ll]
          omega
        have d1 := dp_up2 (K := K) s8 d1
        have d2 := dp_up2 (K := K) s8 d2
        have d5 := dp_up2 (K := K) s8 d5
        have s18 := s17.trans s8
        refine ⟨(by show 4 ≤ sizeLine; decide), fun t9 m9 => ?_⟩
        have d9 := new_lst2 (K := K) (vs := [.ref t1, .ref t2, z5, z8]) (s18.has2 hA5) m9 (.cons d1 (.cons d2 (.cons d5 (.cons d8 .nil))))
        have s9 := same_new (o := .lst [.ref t1, .ref t2, z5, z8]) m9
        have s19 := s18.trans s9
        refine ⟨_, rfl, a, sc, 4, _, rfl, by decide, by decide, S5.same s19, by omega, fun r H6 r0 r4 S6 K6 => ?_⟩
        obtain ⟨p, ys, x, xd, e, qp, hx, mx, dx⟩ := pick_dp (dp_same (of2_kept K6) d9) r0 r4
        cases e
        refine ⟨_, _, _, _, rfl, rfl, qp, hx, k x xd H6 (S6.more (by omega)) ((K05.trans (kept_same s19)).trans K6) dx ?_ (by
          simp only [List.mem_cons, List.not_mem_nil, or_false] at mx
          rcases mx with rfl | rfl | rfl | rfl
          · exact trivial
          · exact fun d hd => hu d (List.mem_reverse.mp hd)
          · exact uA hu (u1 (show u9 + 1 ≤ b + 1 by omega))
          · exact uA (uT (uDr hu)) (uT (uDr hu)))⟩
        simp only [List.mem_cons, List.not_mem_nil, or_false] at mx
        rcases mx with rfl | rfl | rfl | rfl
        · exact Nat.zero_le _
        · show List.length _ ≤ _
          rw [List.length_reverse, ll]
          omega
        · show List.length _ ≤ _
          rw [List.length_append, ll]
          exact Nat.le_refl _
        · show List.length _ ≤ _
          simp only [List.length_append, List.length_take, List.length_drop, ll]
          omega
      -- another pair
      refine ⟨_, rfl, _, rfl, _, rfl, slice_go2 hA5 hd5 (fun z1 G1 s1 d1 => ?_)⟩
      rw [e1, e3] at d1
      have S6 := S5.same s1
      refine ⟨_, rfl, _, rfl, a, sc, 14, _, rfl, by decide, by decide, S6, by omega, fun r H6 r0 r4 S7 K6 => ?_⟩
      obtain ⟨p, ys, x, xd, e, qp, hx, mx, dx⟩ := pick_dp (dp_same (of2_kept K6) (dp_up2 s1 dP5)) r0 (by omega)
      cases e
      have KA := (K05.trans (kept_same s1)).trans K6
      have hA7 := has2 (l := l) S7 KA hl
      have d1 := dp_same (of2_kept K6) d1
      have hd7 := dp_same (of2_kept K6) (dp_up2 s1 hd5)
      refine ⟨_, _, _, _, rfl, rfl, qp, hx, (by show 1 ≤ sizeLine; decide), fun t2 m2 => ?_⟩
      have d2 := new_tup2 (K := K) (vs := [x]) hA7 m2 (.cons dx .nil)
      have s2 := same_new (o := .tup [x]) m2
      refine cat_go2 (s2.has2 hA7) (dp_up2 s2 d1) d2 ?_ (fun z3 G3 s3 d3 => ?_)
      · simp only [List.length_take, List.length_drop, List.length_cons, List.length_nil, ll]
        omega
      refine ⟨_, rfl, _, rfl, _, _, rfl, rfl, _, rfl, ?_⟩
      dsimp only [tNoPart]
      have s23 := s2.trans s3
      refine slice_go2 (s23.has2 hA7) (dp_up2 s23 hd7) (fun z4 G4 s4 d4 => ?_)
      rw [e2, e4] at d4
      refine cat_go2 (s4.has2 (s23.has2 hA7)) (dp_up2 s4 d3) d4 ?_ (fun z5 G5 s5 d5 => ?_)
      · simp only [List.length_append, List.length_take, List.length_drop, List.length_cons, List.length_nil, ll]
        omega
      have sAll := (s23.trans s4).trans s5
      refine k _ _ _ ((S7.same sAll).more (by omega)) (KA.trans (kept_same sAll)) d5 ?_ (uA (uA (uT (uDr hu)) (u1 (uP xd mx))) (uT (uDr hu)))
      show List.length _ ≤ _
      simp only [List.length_append, List.length_take, List.length_drop, List.length_cons, List.length_nil, ll]
      omega
end
end Vk
namespace Vk
open PySem PySem.Spec PyProof.Rows L2 GxR
theorem fine_place {js : List PyData} (h : js.all jobD = true) (f : Fine js) : jobsPlace (.tuple js) = none := place_none (List.all_eq_true.mp h) f.1 f.2
theorem len_log {lg : List (Int × Int)} : lenLog (.tuple (lg.map pairP)) = lg.length := by
  show (lg.map pairP).length = _
  exact List.length_map ..
/-- the place of the first fault -/
def faultP (js : List PyData) (d : PyData) (i : Int) : Prop := logPlace d = some i ∨ ∃ (lg : List (Int × Int)) (j : Nat), logPlace d = none ∧ d = .tuple (lg.map pairP) ∧ overAt js 0 0 lg = some j ∧ i = j
section
variable {P : Program} {w : World} {K : PySem.W.Frag} {mg : Str → Option Value} {base : Heap}
def spDue (K : PySem.W.Frag) : Sp := fun vs H Q _ => ∃ (v u : V) (js : List PyData) (d : PyData), vs = [v, u] ∧ Dp K H v (.tuple js) ∧ js.all jobD = true ∧ js.length ≤ 900 ∧ Dp K H u d ∧ lenLog d ≤ 50000 ∧ uB 1003000 d ∧
  (∀ i : Int, faultP js d i → ∀ H', Same H H' → Q (.int i) H') ∧
  (∀ lg, logPlace d = none → d = .tuple (lg.map pairP) → overAt js 0 0 lg = none → ∀ v' H', Same H H' → Dp K H' v' (.tuple ((rowsL js [] 0 0 lg).map trD)) → Q v' H')
theorem scDue : FnScope ["jobs", "log", "fault", "rows", "finished", "before", "place", "unit", "finishes", "one", "here"] ["jobs", "log"] (defScope sDue) := ⟨rfl, rfl, rfl, by decide +kernel, rfl, by decide +kernel, by decide +kernel⟩
theorem ok_due (D : Df K mg "_law_due" sDue ["jobs", "log"]) (B : Blt mg) (LF : Cl P w K mg base CX0 2 "_law_log_fault" ["log"] (spLogFault K)) (PL : Cl P w K mg base CX0 1 "_law_present" ["jobs", "unit", "finished"] (spPresL K)) : Cl P w K mg base CX0 3 "_law_due" ["jobs", "log"] (spDue K) := by
  refine cl0 D scDue (fun vs H Q E h => ?_) (fun f cdv A outer s H vs Q E hr h => ?_)
  · obtain ⟨v, u, js, d, rfl, _⟩ := h
    rfl
  · obtain ⟨v, u, js, d, rfl, hd, okj, l9, hu, ll, ub, kF, kR⟩ := h
    refine ⟨_, pss_cons (ps_set (i := 2) scDue.nd rfl (Or.inl rfl) (pc LF hr (by decide) (pa_cons (pv 1) pa_nil)))
      (pss_cons (ps_if (pt_cmpR op_notN (pv 2) pe_non (nomark _)) (pss_one (ps_ret (pv 2))) pss_nil)
      (pss_cons (ps_set (i := 3) scDue.nd rfl (Or.inl rfl) (pe_lst pa_nil))
      (pss_cons (ps_set (i := 4) scDue.nd rfl (Or.inl rfl) pe_int)
      (pss_cons (ps_set (i := 5) scDue.nd rfl (Or.inl rfl) pe_int)
      (pss_cons (ps_for PassesOwn.never rfl (pi_enumT B.enum (pa_cons (pv 1) pa_nil)) (pg_tup rfl (pgs_cons (pg_name (i := 6) scDue.nd rfl (.inl rfl)) (pgs_cons (pg_tup rfl (pgs_cons (pg_name (i := 7) scDue.nd rfl (.inl rfl)) (pgs_cons (pg_name (i := 8) scDue.nd rfl (.inl rfl)) pgs_nil))) pgs_nil)))
        (pss_cons (ps_for PassesOwn.never rfl (pi_range2 rfl B.range (pa_cons (pe_op op_add (pv 5) pe_int) (pa_cons (pe_op op_add (pv 7) pe_int) pa_nil))) (pg_name (i := 9) scDue.nd rfl (.inl rfl))
          (pss_cons (ps_set (i := 10) scDue.nd rfl (Or.inl rfl) (pc PL hr (by decide) (pa_cons (pv 0) (pa_cons (pv 9) (pa_cons (pv 4) pa_nil)))))
          (pss_one (ps_if (PW.pt (pw_and (pt_cmpR (op_neNilL (Nat.lt_of_succ_lt (hu_of hr))) (pv 3) (pe_lst pa_nil) (nomark _)) (pw_and1 (pt_cmpR op_eq (pe_ix ix_tup (pe_ix ix_list (pv 3) (pe_un un_neg pe_int) (fun _ _ => rfl)) pe_int (fun _ _ => rfl)) (pv 10) (nomark _)))))
            (pss_one (ps_asg (pe_tup (pa_cons (pe_ix ix_tup (pe_ix ix_list (pv 3) (pe_un un_neg pe_int) (fun _ _ => rfl)) pe_int (fun _ _ => rfl)) (pa_cons (pv 9) (pa_cons (pv 10) pa_nil)))) (pg_sub (pv 3) (pe_un un_neg pe_int) set_list)))
            (pss_one (ps_expr (pe_bm PySem.F.plainAttrs_list PySem.F.slot_list_append PySem.F.type_list_append mt_append (pv 3) (pa_cons (pe_tup (pa_cons (pv 9) (pa_cons (pv 9) (pa_cons (pv 10) pa_nil)))) pa_nil))))))))
        (pss_cons (ps_if (pt_cmpR op_lt (pe_ix ix_tup (pe_ix ix_list (pv 3) (pe_un un_neg pe_int) (fun _ _ => rfl)) pe_int (fun _ _ => rfl)) (pv 8) (nomark _)) (pss_one (ps_ret (pv 6))) pss_nil)
        (pss_cons (ps_set (i := 4) scDue.nd rfl (Or.inl rfl) (pe_op op_add (pv 4) (pv 8)))
        (pss_one (ps_set (i := 5) scDue.nd rfl (Or.inl rfl) (pv 7)))))))
      (pss_one (ps_ret (pe_callTy call_tuple_of (by rfl) B.tuple (by decide +kernel) (pa_cons (pv 3) pa_nil))))))))), ?_⟩
    refine ⟨_, rfl, u, d, rfl, hu, ll, fun H1 s1 => ?_⟩
    cases hp : logPlace d with
    | some p =>
      refine ⟨_, rfl, rfl, _, rfl, iteT ⟨_, rfl, ?_⟩⟩
      exact kF p (.inl hp) H1 s1
    | none =>
    obtain ⟨lg, rfl, asc⟩ := log_pairs hp
    have kF2 : ∀ j : Nat, overAt js 0 0 lg = some j → ∀ H', Same H H' → Q (.int (j : Int)) H' := fun j hj => kF j (.inr ⟨lg, j, hp, rfl, hj, rfl⟩)
    have kR2 := kR lg hp rfl
    clear kF kR
    replace ll : lg.length ≤ 50000 := by
      rw [len_log] at ll
      exact ll
    have ubl : ∀ p ∈ lg, p.1 ≤ 1003000 := fun p hp => ub _ (List.mem_map.mpr ⟨p, hp, rfl⟩)
    refine ⟨_, rfl, rfl, _, rfl, iteF ?_⟩
    refine ⟨(by show 0 ≤ sizeLine; decide), fun l nl => ?_⟩
    have sN := same_new (o := .lst []) nl
    obtain ⟨pj, xs, rfl, qj, rj⟩ := dp_tuple (dp_same s1 hu)
    have xl := dps_len rj
    rw [List.length_map] at xl
    refine ⟨_, rfl, pj, xs, rfl, same_seqT sN qj, for_it (walk_enumT (K := K) (a := pj) (xs := xs)) (fun i σ G => ∃ (f b : Int) (u6 u7 u8 u9 u10 : Option V) (zs : List V) (ts : List Trp), σ = [some v, some (.ref pj), some .non, some (.ref l), some (.int f), some (.int b), u6, u7, u8, u9, u10] ∧ Same H1 (Off l G) ∧ G l = some (.lst zs) ∧ DpAll K (Off l G) zs (ts.map trD) ∧
        overAt js 0 0 lg = overAt js f i (lg.drop i) ∧ rowsL js [] 0 0 lg = rowsL js ts f b (lg.drop i) ∧ Asc b (lg.drop i) ∧ 0 ≤ b ∧ b ≤ 1003000 ∧ (ts.length : Int) ≤ b)
      ⟨0, 0, none, none, none, none, none, [], [], rfl, by rw [off_upd, off_none nl]; exact Same.refl H1, upd_same, .nil, rfl, rfl, asc, by decide, by decide, by decide⟩ (fun i σ G _ ⟨_, _, _, _, _, _, _, _, _, _, sG, _⟩ => same_seqT (sG.trans (off_sub l G)) qj) ?_ ?_⟩
    · rintro i v1 σ G0 G hi ⟨f, b, u6, u7, u8, u9, u10, zs, ts, rfl, sG, lG, dG, eo, er, ha, b0, bB, tb⟩ ⟨TT, x1, y1, rfl, nT, rfl, ex, ey⟩
      cases ex
      obtain ⟨d1, hd1, dp1⟩ := dps_getV rj ey
      rw [List.getElem?_map] at hd1
      obtain ⟨p, hp1, rfl⟩ := Option.map_eq_some_iff.mp hd1
      have dr : lg.drop i = p :: lg.drop (i + 1) := by
        obtain ⟨h1, h2⟩ := List.getElem?_eq_some_iff.mp hp1
        rw [List.drop_eq_getElem_cons h1, h2]
      rw [dr] at eo er ha
      replace eo : overAt js 0 0 lg = if presI js p.1 f < p.2 then some i else overAt js (f + p.2) (i + 1) (lg.drop (i + 1)) := eo
      replace er : rowsL js [] 0 0 lg = rowsL js ((unitsF (fun m => (countA js m f : Int) - f) b (p.1 - b).toNat).foldl joinS ts) (f + p.2) p.1 (lg.drop (i + 1)) := er
      obtain ⟨hb1, _, ha'⟩ := ha
      have pB := ubl p (List.mem_of_getElem? hp1)
      have sT := same_new (o := .tup [V.int (i : Nat), y1]) nT
      have TL : TT ≠ l := fun e => by rw [e, lG] at nT; cases nT
      have sG1 := sG.trans (off_mono sT)
      have lG1 := sT.at lG
      have dG1 := dps_same (off_mono (a := l) sT) dG
      have qT : SqT K (upd G0 TT (.tup [V.int (i : Nat), y1])) TT [V.int (i : Nat), y1] := SqT.of upd_same
      generalize upd G0 TT (.tup [V.int (i : Nat), y1]) = G at sG1 lG1 dG1 qT ⊢
      clear sG lG dG
      obtain ⟨pp, xv, yv, rfl, qp, dx, dy⟩ := dp_two (dp_same (sG1.trans (off_sub l G)) dp1)
      have exv := dp_int dx
      subst exv
      have eyv := dp_int dy
      subst eyv
      refine ⟨TT, _, rfl, qT, rfl, _, _, rfl, _, _, rfl, ⟨pp, _, rfl, qp, rfl, _, _, rfl, _, _, rfl, rfl, rfl, ?_⟩⟩
      refine ⟨_, rfl, _, _, rfl, rfl, _, rfl, _, _, rfl, rfl, b + 1, p.1 + 1, rfl, ⟨by omega, by omega, by omega, by omega⟩, ?_⟩
      refine for_range (lo := b + 1) (n := (p.1 + 1 - (b + 1)).toNat) (fun j σ G => ∃ (u9 u10 : Option V) (zs : List V) (ts' : List Trp), σ = [some v, some (.ref pj), some .non, some (.ref l), some (.int f), some (.int b), some (.int (i : Nat)), some (.int p.1), some (.int p.2), u9, u10] ∧ Same H1 (Off l G) ∧ G l = some (.lst zs) ∧ DpAll K (Off l G) zs (ts'.map trD) ∧ ts' = (unitsF (fun m => (countA js m f : Int) - f) b j).foldl joinS ts)
        ⟨_, _, zs, ts, rfl, sG1, lG1, dG1, rfl⟩ ?_ ?_
      · rintro j σ G hj ⟨w9, w10, zs, ts', rfl, sG, lG, dG, et⟩
        refine ⟨_, rfl, _, rfl, _, rfl, v, js, b + 1 + (j : Int), f, rfl, dp_same (s1.trans (sG.trans (off_sub l G))) hd, okj, l9, fun G3 s3 => ?_⟩
        have sG3 := sG.trans (off_mono (a := l) s3)
        have lG3 := s3.at lG
        have dG3 := dps_same (off_mono (a := l) s3) dG
        have eg : presI js (b + 1 + (j : Int)) f = (countA js (b + (j : Int)) f : Int) - f := by
          unfold presI
          rw [show b + 1 + (j : Int) - 1 = b + (j : Int) by omega]
        have et2 : (unitsF (fun m => (countA js m f : Int) - f) b (j + 1)).foldl joinS ts = joinS ts' (b + 1 + (j : Int), b + 1 + (j : Int), presI js (b + 1 + (j : Int)) f) := by
          rw [unitsF_succ, List.foldl_append, ← et, eg]
          rfl
        generalize presI js (b + 1 + (j : Int)) f = c at et2 ⊢
        have tl : (ts'.length : Int) ≤ 1003000 := by
          have z := fold_len (ps := unitsF (fun m => (countA js m f : Int) - f) b j) (acc := ts)
          rw [← et, unitsF_len] at z
          omega
        clear sG lG dG et eg
        have zl := dps_len dG3
        rw [List.length_map] at zl
        refine ⟨_, rfl, (by show 0 ≤ sizeLine; decide), fun q nq => ?_⟩
        have sq := same_new (o := .lst []) nq
        have ql : q ≠ l := fun e => by rw [e, lG3] at nq; cases nq
        have hq : SqL K (upd G3 q (.lst [])) q [] := SqL.of upd_same
        have sG4 := sG3.trans (off_mono (a := l) sq)
        have lG4 := sq.at lG3
        have dG4 := dps_same (off_mono (a := l) sq) dG3
        generalize upd G3 q (.lst []) = G4 at hq sG4 lG4 dG4 ⊢
        refine ⟨l, q, zs, rfl, rfl, SqL.of lG4, hq, _, rfl, ?_⟩
        have small : zs.length < sizeLine := Nat.lt_of_le_of_lt (show zs.length ≤ 1003000 by omega) (by decide)
        have app : joinS ts' (b + 1 + (j : Int), b + 1 + (j : Int), c) = ts' ++ [(b + 1 + (j : Int), b + 1 + (j : Int), c)] → ∀ (t : Addr), G4 t = none →
            Same H1 (Off l (upd (upd G4 t (.tup [.int (b + 1 + (j : Int)), .int (b + 1 + (j : Int)), .int c])) l (.lst (zs ++ [.ref t])))) ∧ DpAll K (Off l (upd (upd G4 t (.tup [.int (b + 1 + (j : Int)), .int (b + 1 + (j : Int)), .int c])) l (.lst (zs ++ [.ref t])))) (zs ++ [.ref t]) ((joinS ts' (b + 1 + (j : Int), b + 1 + (j : Int), c)).map trD) := fun e t nt => by
          have tl2 : t ≠ l := fun e => by rw [e, lG4] at nt; cases nt
          have st := same_new (o := .tup [.int (b + 1 + (j : Int)), .int (b + 1 + (j : Int)), .int c]) nt
          refine ⟨by rw [off_upd]; exact sG4.trans (off_mono st), ?_⟩
          rw [off_upd, e, List.map_append]
          refine dps_app (dps_same (off_mono st) dG4) (.cons (.tup (a := t) (SqT.of ?_) (.cons (.int _) (.cons (.int _) (.cons (.int _) .nil)))) .nil)
          rw [off_ne tl2, upd_same]
        have none_ : zs = [] → joinS ts' (b + 1 + (j : Int), b + 1 + (j : Int), c) = ts' ++ [(b + 1 + (j : Int), b + 1 + (j : Int), c)] := fun e => by
          have e2 : ts' = [] := List.eq_nil_of_length_eq_zero (by rw [← zl, e]; rfl)
          rw [e2]
          rfl
        cases he : zs.isEmpty with
        | true =>
          refine iteF (iteF ?_)
          refine ⟨_, rfl, .inl ⟨rfl, _, SqL.of lG4⟩, _, rfl, _, rfl, _, rfl, (by show 3 ≤ sizeLine; decide), fun t nt => ?_⟩
          obtain ⟨a1, a2⟩ := app (none_ (List.isEmpty_iff.mp he)) t nt
          exact ⟨l, _, _, rfl, rfl, (same_new nt).at lG4, small, _, _, _, _, rfl, a1, upd_same, a2, et2.symm⟩
        | false =>
          have zpos : 0 < zs.length := by
            cases zs with
            | nil => cases he
            | cons x r => exact Nat.succ_pos _
          have hz : zs[zs.length - 1]? = some zs[zs.length - 1] := List.getElem?_eq_getElem (by omega)
          obtain ⟨dl, hdl, ddl⟩ := dps_getV dG4 hz
          generalize zs[zs.length - 1] = lv at hz ddl
          rw [List.getElem?_map] at hdl
          obtain ⟨q', hq', rfl⟩ := Option.map_eq_some_iff.mp hdl
          obtain ⟨q1, q2, q3⟩ := q'
          have hlast : ts'.getLast? = some (q1, q2, q3) := by
            rw [List.getLast?_eq_getElem?, ← zl]
            exact hq'
          obtain ⟨pq, xq, yq, zq, rfl, qq, dxq, dyq, dzq⟩ := dp_three (dp_same (off_sub l G4) ddl)
          have exq := dp_int dxq
          subst exq
          have ezq := dp_int dzq
          subst ezq
          have hat : atI zs (-1) = some (.ref pq) := by
            rw [atI_last zpos]
            exact hz
          refine iteT ⟨_, rfl, _, rfl, l, zs, _, _, rfl, rfl, SqL.of lG4, hat, pq, _, _, _, rfl, rfl, qq, rfl, _, rfl, rfl, _, rfl, ?_⟩
          have js_ : joinS ts' (b + 1 + (j : Int), b + 1 + (j : Int), c) = if q3 = c then ts'.dropLast ++ [(q1, b + 1 + (j : Int), c)] else ts' ++ [(b + 1 + (j : Int), b + 1 + (j : Int), c)] := by
            unfold joinS
            rw [hlast]
          by_cases hc : q3 = c
          · rw [decide_eq_true (show V.int q3 = V.int c by rw [hc])]
            rw [if_pos hc] at js_
            refine iteT ?_
            refine ⟨_, rfl, _, rfl, l, zs, _, _, rfl, rfl, SqL.of lG4, hat, pq, _, _, _, rfl, rfl, qq, rfl, _, rfl, _, rfl, (by show 3 ≤ sizeLine; decide), fun t nt => ?_⟩
            have st := same_new (o := .tup [.int q1, .int (b + 1 + (j : Int)), .int c]) nt
            have tl2 : t ≠ l := fun e => by rw [e, lG4] at nt; cases nt
            refine ⟨_, rfl, _, rfl, l, zs, _, zs.length - 1, rfl, rfl, st.at lG4, ixN_last zpos, _, _, zs.dropLast ++ [.ref t], _, rfl, ?_, ?_, ?_, et2.symm⟩
            · rw [off_upd]
              exact sG4.trans (off_mono st)
            · rw [upd_same, set_last zpos]
            · rw [off_upd, js_, List.map_append]
              have d2 := dps_take (zs.length - 1) (dps_same (off_mono st) dG4)
              rw [← List.dropLast_eq_take, zl, ← List.length_map (f := trD), ← List.dropLast_eq_take, ← List.map_dropLast] at d2
              refine dps_app d2 (.cons (.tup (a := t) (SqT.of ?_) (.cons (.int _) (.cons (.int _) (.cons (.int _) .nil)))) .nil)
              rw [off_ne tl2, upd_same]
          · rw [decide_eq_false (fun e => hc (V.int.inj e))]
            rw [if_neg hc] at js_
            refine iteF ?_
            refine ⟨_, rfl, .inl ⟨rfl, _, SqL.of lG4⟩, _, rfl, _, rfl, _, rfl, (by show 3 ≤ sizeLine; decide), fun t nt => ?_⟩
            obtain ⟨a1, a2⟩ := app js_ t nt
            exact ⟨l, _, _, rfl, rfl, (same_new nt).at lG4, small, _, _, _, _, rfl, a1, upd_same, a2, et2.symm⟩
      · rintro σ G ⟨w9, w10, zs, ts', rfl, sG, lG, dG, et⟩
        have en : (p.1 + 1 - (b + 1)).toNat = (p.1 - b).toNat := by omega
        rw [en] at et
        rw [← et] at er
        have zl := dps_len dG
        rw [List.length_map] at zl
        obtain ⟨x, hlast⟩ : ∃ x, ts'.getLast? = some (x, p.1, presI js p.1 f) := by
          have e1 : (p.1 - b).toNat = (p.1 - b - 1).toNat + 1 := by omega
          rw [et, e1, unitsF_succ, List.foldl_append]
          obtain ⟨x, h⟩ := joinS_last (acc := (unitsF (fun m => (countA js m f : Int) - f) b (p.1 - b - 1).toNat).foldl joinS ts) (p := (b + 1 + (((p.1 - b - 1).toNat : Nat) : Int), b + 1 + (((p.1 - b - 1).toNat : Nat) : Int), (countA js (b + (((p.1 - b - 1).toNat : Nat) : Int)) f : Int) - f))
          refine ⟨x, h.trans ?_⟩
          unfold presI
          rw [show b + 1 + (((p.1 - b - 1).toNat : Nat) : Int) = p.1 by omega, show b + (((p.1 - b - 1).toNat : Nat) : Int) = p.1 - 1 by omega]
        have tl : (ts'.length : Int) ≤ p.1 := by
          have z := fold_len (ps := unitsF (fun m => (countA js m f : Int) - f) b (p.1 - b).toNat) (acc := ts)
          rw [← et, unitsF_len] at z
          omega
        have tpos : 0 < ts'.length := by
          cases ts' with
          | nil => cases hlast
          | cons _ _ => exact Nat.succ_pos _
        have zpos : 0 < zs.length := by omega
        have hz : zs[zs.length - 1]? = some zs[zs.length - 1] := List.getElem?_eq_getElem (by omega)
        obtain ⟨dl, hdl, ddl⟩ := dps_getV dG hz
        generalize zs[zs.length - 1] = lv at hz ddl
        rw [List.getElem?_map, zl, ← List.getLast?_eq_getElem?, hlast] at hdl
        cases hdl
        obtain ⟨pq, xq, yq, zq, rfl, qq, dxq, dyq, dzq⟩ := dp_three (dp_same (off_sub l G) ddl)
        have ezq := dp_int dzq
        subst ezq
        have hat : atI zs (-1) = some (.ref pq) := by
          rw [atI_last zpos]
          exact hz
        refine ⟨_, rfl, _, rfl, l, zs, _, _, rfl, rfl, SqL.of lG, hat, pq, _, _, _, rfl, rfl, qq, rfl, _, rfl, _, _, rfl, rfl, _, rfl, ?_⟩
        by_cases hc : presI js p.1 f < p.2
        · rw [decide_eq_true hc]
          rw [if_pos hc] at eo
          exact iteT ⟨_, rfl, kF2 i eo G (s1.trans (sG.trans (off_sub l G)))⟩
        · rw [decide_eq_false hc]
          rw [if_neg hc] at eo
          refine iteF ⟨_, rfl, _, rfl, _, _, rfl, rfl, _, rfl, f + p.2, p.1, _, _, _, _, _, zs, ts', rfl, sG, lG, dG, eo, er, ha', by omega, pB, tl⟩
    · rintro σ G ⟨f, b, u6, u7, u8, u9, u10, zs, ts, rfl, sG, lG, dG, eo, er, ha, b0, bB, tb⟩
      rw [xl, List.drop_length] at eo er
      refine ⟨_, rfl, l, zs, rfl, .inl ⟨SqL.of lG, fun t nt => ?_⟩⟩
      have st := same_new (o := .tup zs) nt
      have z := kR2 eo (.ref t) _ (s1.trans ((sG.trans (off_sub l G)).trans st))
      rw [er] at z
      exact z (.tup (SqT.of upd_same) (dps_same ((off_sub l G).trans st) dG))
end
end Vk
namespace Vk
open PySem PySem.Spec PyProof.Rows L2 GxR
theorem pairs_inj : ∀ {l m : List (Int × Int)}, l.map pairP = m.map pairP → l = m
  | [], [], _ => rfl
  | [], _ :: _, h => by cases h
  | _ :: _, [], h => by cases h
  | (a, b) :: l, (c, d) :: m, h => by
    rw [List.map_cons, List.map_cons] at h
    obtain ⟨h1, h2⟩ := List.cons.inj h
    rw [pairs_inj h2]
    have z := PyData.tuple.inj h1
    obtain ⟨z1, z2⟩ := List.cons.inj z
    obtain ⟨z2, _⟩ := List.cons.inj z2
    rw [show a = c from PyData.int.inj z1, show b = d from PyData.int.inj z2]
theorem passE0 {X : Cx} : Passes (L2.CX X.prog X.w) X E0 := fun _ _ _ _ _ _ _ ⟨_, _, _, _, _, _, _, _, _, _, _, _, h⟩ => False.elim h
theorem fault_uniq {js : List PyData} {d : PyData} {i j : Int} (h : faultP js d i) (g : faultP js d j) : i = j := by
  rcases h with h | ⟨lg, a, h1, h2, h3, h4⟩ <;> rcases g with g | ⟨lg', b, g1, g2, g3, g4⟩
  · rw [h] at g
    cases g
    rfl
  · rw [h] at g1
    cases g1
  · rw [g] at h1
    cases h1
  · have e := pairs_inj (PyData.tuple.inj (h2.symm.trans g2))
    subst e
    rw [h3] at g3
    cases g3
    rw [h4, g4]
theorem fault_not {js : List PyData} {d : PyData} {i : Int} {lg : List (Int × Int)} (h : faultP js d i) (hp : logPlace d = none) (ed : d = .tuple (lg.map pairP)) (ho : overAt js 0 0 lg = none) : False := by
  rcases h with h | ⟨lg', a, h1, h2, h3, h4⟩
  · rw [hp] at h
    cases h
  · have e := pairs_inj (PyData.tuple.inj (h2.symm.trans ed))
    subst e
    rw [h3] at ho
    cases ho
section
variable {P : Program} {w : World} {K : PySem.W.Frag} {mg : Str → Option Value} {base : Heap}
def spRight (K : PySem.W.Frag) (T : Addr) : Sp := fun vs H Q _ => ∃ (v u : V) (js : List PyData) (d : PyData), vs = [v, u] ∧ Dp K H v (.tuple js) ∧ js.all jobD = true ∧ js.length ≤ 20 ∧ jobsPlace (.tuple js) = none ∧ TabG H T ∧ Dp K H u d ∧ lenLog d ≤ 20 ∧ uB 1003000 d ∧ ∀ H', Same H H' → Q (.bl true) H'
theorem scRight : FnScope ["jobs", "log", "due", "caught", "found", "e"] ["jobs", "log"] (defScope sRight) := ⟨rfl, rfl, rfl, by decide +kernel, rfl, by decide +kernel, by decide +kernel⟩
theorem ok_right {T C : Addr} (D : Df K mg "_law_right" sRight ["jobs", "log"]) (B : Blt mg) (N : Kn K mg C 3) (DU : Cl P w K mg base CX0 3 "_law_due" ["jobs", "log"] (spDue K)) (PR : Cl P w K mg base (L2.CX P w) 6 "presence" ["jobs", "log"] (spPresence K T C))
    (KI : Cl P w K mg base CX0 1 "_law_kind" ["caught"] (spKind C 3)) : Cl P w K mg base CX0 7 "_law_right" ["jobs", "log"] (spRight K T) := by
  refine cl0 D scRight (fun vs H Q E h => ?_) (fun f cdv A outer s H vs Q E hr h => ?_)
  · obtain ⟨v, u, js, d, rfl, _⟩ := h
    rfl
  · obtain ⟨v, u, js, d, rfl, hd, okj, l9, jp, tg, hu, ll, ub, k⟩ := h
    obtain ⟨S, mS, _, exm⟩ := N.se
    obtain ⟨fC, fdC, mC, kpC, bC, FC⟩ := PR.ex
    refine ⟨_, pss_cons (ps_set (i := 2) scRight.nd rfl (Or.inl rfl) (pc DU hr (by decide) (pa_cons (pv 0) (pa_cons (pv 1) pa_nil))))
      (pss_cons (ps_set (i := 3) scRight.nd rfl (Or.inl rfl) pe_non)
      (pss_cons (ps_set (i := 4) scRight.nd rfl (Or.inl rfl) pe_non)
      (pss_cons (ps_try_keep (i := 5) (c := .ref S) (tb := fun W => tAsg (tCallS (spPresence K T C) (WE W) (tCons (tVar 0) (tCons (tVar 1) tNil))) (gName 4)) (ts := fun _ _ _ => tAsg (tVar 5) (gName 3)) rfl rfl rfl scRight.nd rfl rfl rfl mS (by decide)
          (fun W pn xe tk _ => pss_one (ps_set (i := 4) scRight.nd rfl (Or.inl rfl) (by exact (pe_callS FC hr rfl mC kpC bC (fun σ => passAt tk σ) (by exact (pa_cons (pv 0) (pa_cons (pv 1) pa_nil)))))))
          (fun a oe cls d pn _ _ => pss_one (ps_set (i := 3) scRight.nd rfl (Or.inl rfl) (by exact (pv 5)))))
      (pss_cons (ps_if (pt_val (pe_callB call_isi (by rfl) B.isi (by decide +kernel) (pa_cons (pv 2) (pa_cons (pe_bltn (v := .ty "tuple") (u := .type "tuple") (by rfl) B.tuple (by decide +kernel) rfl) pa_nil)))) (pss_one (ps_ret (pe_and (pe_cmpR op_isN (pv 3) pe_non (nomark _)) (pe_and (pe_cmpR (op_eqD hr.units) (pv 4) (pv 2) (nomark _)) (pe_one (pe_callB call_isi (by rfl) B.isi (by decide +kernel) (pa_cons (pv 4) (pa_cons (pe_bltn (v := .ty "tuple") (u := .type "tuple") (by rfl) B.tuple (by decide +kernel) rfl) pa_nil)))))))) pss_nil)
      (pss_one (ps_ret (pe_and (pe_cmpR op_notN (pv 3) pe_non (nomark _)) (pe_one (pe_cmpR (op_eqD hr.units) (pc KI hr (by decide) (pa_cons (pv 3) pa_nil)) (pe_tup (pa_cons pe_str (pa_cons (pv 2) pa_nil))) (nomark _)))))))))), ?_⟩
    refine ⟨_, rfl, _, rfl, v, u, js, d, rfl, hd, okj, by omega, hu, by omega, ub, fun i hi H1 s1 => ?_, fun lg hp ed ho v1 H1 s1 d1 => ?_⟩
    · refine ⟨_, rfl, _, rfl, v, u, js, d, rfl, dp_same s1 hd, okj, l9, jp, s1.tab T tg, dp_same s1 hu, ll, fun lg hp ed ho => absurd (fault_not hi hp ed ho) id, fun p e dx H2 s2 hx => ?_⟩
      have ep : p = i := fault_uniq e hi
      subst ep
      refine ⟨exm, fun a na => ⟨_, rfl, fun na2 => ?_⟩⟩
      have s3 := (s1.trans s2).trans (same_new (o := Xco a (.ref C) (some dx)) na2)
      have hx3 : upd H2 a (Xco a (.ref C) (some dx)) dx = some (.xd [(("place" : Str), .int p)]) := by
        rw [upd_ne (ne_of_none hx na2)]
        exact hx
      refine ⟨_, rfl, .int p, _, _, _, _, rfl, .ty "tuple", dp_ty (.int p), kit_tup (H := H) (.int p), _, rfl, iteF ?_⟩
      refine ⟨_, rfl, rfl, _, rfl, iteT ?_⟩
      refine ⟨_, rfl, a, dx, _, rfl, upd_same, hx3, fun t H4 s4 ht => ?_⟩
      refine ⟨_, rfl, (by show 2 ≤ sizeLine; decide), fun q nq => ?_⟩
      have s6 := s4.trans (same_new (o := .tup [.str ("log" : Str), .int p]) nq)
      have d1 : Dp K (upd H4 q (.tup [.str ("log" : Str), .int p])) (.ref t) (.tuple [.str ("log" : Str), .int p]) := .tup (SqT.of ((same_new nq).at ht)) (.cons (.str _) (.cons (.int _) .nil))
      have d2 : Dp K (upd H4 q (.tup [.str ("log" : Str), .int p])) (.ref q) (.tuple [.str ("log" : Str), .int p]) := .tup (SqT.of upd_same) (.cons (.str _) (.cons (.int _) .nil))
      have sh : SeqAt.shaped (.tuple [.str ("log" : Str), .int p]) = true := by simp [SeqAt.shaped, PyData.canLay0, PyData.canLayAll0, PyData.depth, PyData.depthAll]; decide +kernel
      have eq : PyData.eqv (.tuple [.str ("log" : Str), .int p]) (.tuple [.str ("log" : Str), .int p]) = true := SeqAt.eqv_refl _ (SeqAt.canLay_of_shaped sh)
      refine ⟨_, _, d1, d2, sh, sh, ?_⟩
      show Q (.bl (PyData.eqv _ _)) _
      rw [eq]
      exact k _ (s3.trans s6)
    · obtain ⟨lg0, ed0, asc⟩ := log_pairs hp
      have el : lg = lg0 := pairs_inj (PyData.tuple.inj (ed.symm.trans ed0))
      subst el
      have fin : ∀ (v2 : V) (H2 : Hp), Same H1 H2 → Dp K H2 v2 (.tuple ((rowsL js [] 0 0 lg).map trD)) → ∀ R : VK, (∀ H', Same H H' → R (.bl true) H') → R (.bl true) H2 := fun v2 H2 s2 d2 R kk => kk H2 (s1.trans s2)
      refine ⟨_, rfl, _, rfl, v, u, js, d, rfl, dp_same s1 hd, okj, l9, jp, s1.tab T tg, dp_same s1 hu, ll, fun lg2 hp2 ed2 ho2 => ?_, fun p e dx H2 s2 hx => absurd (fault_not e hp ed ho) id⟩
      have el2 : lg2 = lg := pairs_inj (PyData.tuple.inj (ed2.symm.trans ed0))
      subst el2
      have go : ∀ (v2 : V) (H2 : Hp), Same H1 H2 → Dp K H2 v2 (.tuple ((rowsL js [] 0 0 lg2).map trD)) → True := fun _ _ _ _ => trivial
      have sh := shaped_trs (rowsL js [] 0 0 lg2)
      refine ⟨fun e0 v2 H2 s2 d2 => ?_, fun ne ns v2 H2 pw mem s2 d2 => ?_⟩
      · subst e0
        replace d2 : Dp K H2 v2 (.tuple ((rowsL js [] 0 0 []).map trD)) := d2
        have dv := dp_same s2 d1
        refine ⟨_, rfl, v1, _, _, _, _, rfl, .ty "tuple", dp_ty dv, kit_tup dv, _, rfl, iteT ?_⟩
        refine ⟨_, rfl, rfl, _, rfl, iteT ?_⟩
        refine ⟨_, rfl, _, rfl, _, _, d2, dv, sh, sh, _, rfl, ?_⟩
        rw [SeqAt.eqv_refl _ (SeqAt.canLay_of_shaped sh)]
        exact iteT ⟨_, rfl, v2, _, _, _, _, rfl, .ty "tuple", dp_ty d2, kit_tup d2, k _ (s1.trans s2)⟩
      · rw [pres_rows okj asc ne pw mem] at d2
        have dv := dp_same s2 d1
        refine ⟨_, rfl, v1, _, _, _, _, rfl, .ty "tuple", dp_ty dv, kit_tup dv, _, rfl, iteT ?_⟩
        refine ⟨_, rfl, rfl, _, rfl, iteT ?_⟩
        refine ⟨_, rfl, _, rfl, _, _, d2, dv, sh, sh, _, rfl, ?_⟩
        rw [SeqAt.eqv_refl _ (SeqAt.canLay_of_shaped sh)]
        exact iteT ⟨_, rfl, v2, _, _, _, _, rfl, .ty "tuple", dp_ty d2, kit_tup d2, k _ (s1.trans s2)⟩
end
end Vk
namespace Vk
open PySem PySem.Spec PyProof.Rows L2 GxR
theorem cut1 {xs : List V} (h : 1 ≤ xs.length) : cutV xs (some 1) none = xs.drop 1 := by
  unfold cutV
  have e1 : HT.sIx xs.length 0 (some ((1 : Nat) : Int)) = 1 := by rw [HT.sIx_nat]; omega
  have e2 : HT.sIx xs.length xs.length none = xs.length := rfl
  rw [show (some (1 : Int)) = some ((1 : Nat) : Int) from rfl, e1, e2]
  exact List.take_of_length_le (by rw [List.length_drop]; exact Nat.le_refl _)
def rInt1 : List V → Hp → VK → Prop := fun xs H Q => (∃ i, xs = [.int i] ∧ Q (.int i) H) ∨ ∃ k, xs = [.bl k] ∧ Q (.int (if k then 1 else 0)) H
section
variable {P : Program} {w : World} {K : PySem.W.Frag} {mg : Str → Option Value} {base : Heap}
def spLr (K : PySem.W.Frag) (T : Addr) : Sp := fun vs H Q _ => ∃ (v u : V) (js : List PyData) (lg : List (Int × Int)), vs = [v, u] ∧ Dp K H v (.tuple js) ∧ js.all jobD = true ∧ js.length ≤ 20 ∧ Fine js ∧ TabG H T ∧ Dp K H u (.tuple (lg.map pairP)) ∧ Asc 0 lg ∧ lg.length ≤ 20 ∧ (∀ p ∈ lg, p.1 ≤ 1002500) ∧ ∀ H', Same H H' → Q (.bl true) H'
theorem scLr : FnScope ["jobs", "log", "far", "later", "found", "due", "name", "kind", "number", "door", "unit", "finishes", "first", "last", "here"] ["jobs", "log"] (defScope sLaterRight) := ⟨rfl, rfl, rfl, by decide +kernel, rfl, by decide +kernel, by decide +kernel⟩
theorem ok_lr {T C : Addr} (D : Df K mg "_law_later_right" sLaterRight ["jobs", "log"]) (B : Blt mg) (LF : Cl P w K mg base CX0 2 "_law_log_fault" ["log"] (spLogFault K)) (DU : Cl P w K mg base CX0 3 "_law_due" ["jobs", "log"] (spDue K)) (PR : Cl P w K mg base (L2.CX P w) 6 "presence" ["jobs", "log"] (spPresence K T C)) : Cl P w K mg base CX0 7 "_law_later_right" ["jobs", "log"] (spLr K T) := by
  refine cl0 D scLr (fun vs H Q E h => ?_) (fun f cdv A outer s H vs Q E hr h => ?_)
  · obtain ⟨v, u, js, lg, rfl, _⟩ := h
    rfl
  · obtain ⟨v, u, js, lg, rfl, hd, okj, l9, fine, tg, hu, asc, ll, ub, k⟩ := h
    obtain ⟨fC, fdC, mC, kpC, bC, FC⟩ := PR.ex
    refine ⟨_, pss_cons (ps_set (i := 2) scLr.nd rfl (Or.inr rfl) (pe_op op_pow pe_int pe_int))
      (pss_cons (ps_if (PW.pt (pw_or (pt_cmpR op_notN (pc LF hr (by decide) (pa_cons (pv 1) pa_nil)) pe_non (nomark _)) (pw_or (pt_not (pt_val (pe_callB call_isi (by rfl) B.isi (by decide +kernel) (pa_cons (pc DU hr (by decide) (pa_cons (pv 0) (pa_cons (pv 1) pa_nil))) (pa_cons (pe_bltn (v := .ty "tuple") (u := .type "tuple") (by rfl) B.tuple (by decide +kernel) rfl) pa_nil))))) (pw_or1 (pt_cmpR (op_eqNilT (Nat.lt_of_succ_lt (hu_of hr))) (pv 1) (pe_tup pa_nil) (nomark _)))))) (pss_one (ps_ret pe_bl)) pss_nil)
      (pss_cons (ps_set (i := 3) scLr.nd rfl (Or.inl rfl) (pe_callTy call_tuple_of (by rfl) B.tuple (by decide +kernel) (pa_cons
        (pe_lc (own := [("name", 6), ("kind", 7), ("number", 8), ("door", 9)]) (g := gTup K 3 (gCons (gName 6) (gCons (gTup K 2 (gCons (gName 7) (gCons (gName 8) gNil))) (gCons (gName 9) gNil)))) (tt := tYes)
          (te := tTup (tCons (tVar 6) (tCons (tTup (tCons (tVar 7) (tCons (tOp (rI0 fun i j => .int (i + j)) (tVar 8) (tOp (rI CMul fun i j => .int (i * j)) (tVar 2) (tCB rInt1 (tCons (tOp rEq (tVar 7) (tC (.str "at"))) tNil)))) tNil))) (tCons (tVar 9) tNil)))) (by rfl) scLr.nd (pi_tup (pv 0))
          (blkOk_by (own := [("name", 6), ("kind", 7), ("number", 8), ("door", 9)]) (N := ["jobs", "log", "far", "later", "found", "due", "name", "kind", "number", "door", "unit", "finishes", "first", "last", "here"]) (sc := defScope sLaterRight) (by decide +kernel))
          (fun _ _ _ _ _ => pg_tup rfl (pgs_cons (pg_name (i := 6) scLr.nd rfl (Or.inl rfl)) (pgs_cons (pg_tup rfl (pgs_cons (pg_name (i := 7) scLr.nd rfl (Or.inl rfl)) (pgs_cons (pg_name (i := 8) scLr.nd rfl (Or.inl rfl)) pgs_nil))) (pgs_cons (pg_name (i := 9) scLr.nd rfl (Or.inl rfl)) pgs_nil)))) (fun _ _ _ _ _ => pts_nil)
          (fun _ _ _ _ _ => pe_tup (pa_cons (pv 6) (pa_cons (pe_tup (pa_cons (pv 7) (pa_cons (pe_op op_add (pv 8) (pe_op op_mul (pv 2) (pe_callTy call_int1 (by rfl) B.int (by decide +kernel) (pa_cons (pe_cmpR op_eq (pv 7) pe_str (nomark _)) pa_nil)))) pa_nil))) (pa_cons (pv 9) pa_nil))))) pa_nil)))
      (pss_cons (ps_set (i := 4) scLr.nd rfl (Or.inl rfl) (pe_call (E := E0) FC hr rfl mC kpC bC .nil passE0 (pa_cons (pv 3) (pa_cons (pe_callTy call_tuple_of (by rfl) B.tuple (by decide +kernel) (pa_cons
        (pe_lc (own := [("unit", 10), ("finishes", 11)]) (g := gTup K 2 (gCons (gName 10) (gCons (gName 11) gNil))) (tt := tYes) (te := tTup (tCons (tOp (rI0 fun i j => .int (i + j)) (tVar 10) (tVar 2)) (tCons (tVar 11) tNil))) (by rfl) scLr.nd (pi_tup (pv 1))
          (blkOk_by (own := [("unit", 10), ("finishes", 11)]) (N := ["jobs", "log", "far", "later", "found", "due", "name", "kind", "number", "door", "unit", "finishes", "first", "last", "here"]) (sc := defScope sLaterRight) (by decide +kernel))
          (fun _ _ _ _ _ => pg_tup rfl (pgs_cons (pg_name (i := 10) scLr.nd rfl (Or.inl rfl)) (pgs_cons (pg_name (i := 11) scLr.nd rfl (Or.inl rfl)) pgs_nil))) (fun _ _ _ _ _ => pts_nil) (fun _ _ _ _ _ => pe_tup (pa_cons (pe_op op_add (pv 10) (pv 2)) (pa_cons (pv 11) pa_nil)))) pa_nil)) pa_nil))))
      (pss_cons (ps_setLc (i := 5)
        (own := [("first", 12), ("last", 13), ("here", 14)]) (g := gTup K 3 (gCons (gName 12) (gCons (gName 13) (gCons (gName 14) gNil)))) (tt := tYes) (te := tTup (tCons (tOp (rI0 fun i j => .int (i + j)) (tVar 12) (tVar 2)) (tCons (tOp (rI0 fun i j => .int (i + j)) (tVar 13) (tVar 2)) (tCons (tVar 14) tNil)))) rfl scLr.nd rfl rfl (sw_true rfl rfl rfl (by decide +kernel)) (pi_tup (pc DU hr (by decide) (pa_cons (pv 0) (pa_cons (pv 1) pa_nil))))
          (blkOk_by (own := [("first", 12), ("last", 13), ("here", 14)]) (N := ["jobs", "log", "far", "later", "found", "due", "name", "kind", "number", "door", "unit", "finishes", "first", "last", "here"]) (sc := defScope sLaterRight) (by decide +kernel))
          (fun _ _ _ _ _ => pg_tup rfl (pgs_cons (pg_name (i := 12) scLr.nd rfl (Or.inl rfl)) (pgs_cons (pg_name (i := 13) scLr.nd rfl (Or.inl rfl)) (pgs_cons (pg_name (i := 14) scLr.nd rfl (Or.inl rfl)) pgs_nil)))) (fun _ _ _ _ _ => pts_nil) (fun _ _ _ _ _ => pe_tup (pa_cons (pe_op op_add (pv 12) (pv 2)) (pa_cons (pe_op op_add (pv 13) (pv 2)) (pa_cons (pv 14) pa_nil)))))
      (pss_cons (ps_if (pt_cmpR op_eq (pe_ix ix_tup (pe_ix ix_list (pv 5) pe_int (fun _ _ => rfl)) pe_int (fun _ _ => rfl)) pe_int (nomark _)) (pss_one (ps_ret (pe_cmpR (op_eqD hr.units) (pv 4) (pe_callTy call_tuple_of (by rfl) B.tuple (by decide +kernel) (pa_cons (pe_op op_cat (pe_lst (pa_cons (pe_tup (pa_cons pe_int (pa_cons (pe_ix ix_tup (pe_ix ix_list (pv 5) pe_int (fun _ _ => rfl)) pe_int (fun _ _ => rfl)) (pa_cons pe_int pa_nil)))) pa_nil)) (pe_slice sl_list (pv 5) (po_some pe_int) po_none)) pa_nil)) (nomark _)))) pss_nil)
      (pss_one (ps_ret (pe_cmpR (op_eqD hr.units) (pv 4) (pe_callTy call_tuple_of (by rfl) B.tuple (by decide +kernel) (pa_cons (pe_op op_cat (pe_lst (pa_cons (pe_tup (pa_cons pe_int (pa_cons (pv 2) (pa_cons pe_int pa_nil)))) pa_nil)) (pv 5)) pa_nil)) (nomark _))))))))), ?_⟩
    refine ⟨_, _, rfl, rfl, ⟨by decide, by decide, by decide⟩, ?_⟩
    have f1 : (1 : Int) ≤ 10 ^ (29 : Int).toNat := by decide
    dsimp only
    generalize (10 : Int) ^ (29 : Int).toNat = far at f1 ⊢
    have lp := log_none asc
    have lenu : lenLog (.tuple (lg.map pairP)) ≤ 20 := by rw [len_log]; exact ll
    have uB3 : uB 1003000 (.tuple (lg.map pairP)) := uPairs ub (by decide)
    refine ⟨_, rfl, u, _, rfl, hu, by omega, fun H1 s1 => ?_⟩
    rw [lp]
    refine ⟨rfl, _, rfl, iteF ?_⟩
    refine ⟨_, rfl, _, rfl, v, u, js, _, rfl, dp_same s1 hd, okj, by omega, dp_same s1 hu, by omega, uB3, fun i hi H2 s2 => ?_, fun lg2 _ e2 ho v2 H2 s2 d2 => ?_⟩
    · exact ⟨.int i, _, _, _, _, rfl, .ty "tuple", dp_ty (.int i), kit_tup (H := H) (.int i), _, rfl, iteT (iteT (k _ (s1.trans s2)))⟩
    have e3 := pairs_inj (PyData.tuple.inj e2)
    subst e3
    refine ⟨v2, _, _, _, _, rfl, .ty "tuple", dp_ty d2, kit_tup d2, _, rfl, iteF ?_⟩
    have s12 := s1.trans s2
    refine ⟨_, rfl, (by show 0 ≤ sizeLine; decide), fun q nq => ?_⟩
    have sq := same_new (o := .tup []) nq
    have s3 := s12.trans sq
    have hq : SqT K (upd H2 q (.tup [])) q [] := SqT.of upd_same
    generalize upd H2 q (.tup []) = H3 at sq s3 hq ⊢
    obtain ⟨pj, ys, rfl, qj, rj⟩ := dp_tuple (dp_same s3 hd)
    obtain ⟨pl, xs, rfl, ql, rl⟩ := dp_tuple (dp_same s3 hu)
    have yl := dps_len rj
    have xl := dps_len rl
    rw [List.length_map] at xl
    refine ⟨pl, q, xs, rfl, rfl, ql, hq, _, rfl, ?_⟩
    cases he : xs.isEmpty with
    | true => exact iteT (k _ s3)
    | false =>
    have ne : lg ≠ [] := fun e => by
      subst e
      have z := List.eq_nil_of_length_eq_zero xl
      rw [z] at he
      cases he
    refine iteF ?_
    -- later
    refine ⟨_, rfl, pj, rfl, ⟨_, qj⟩, fun D1 nD1 => ?_⟩
    refine lc_it (walk_tup (K := K) (a := pj) (xs := ys)) (fun m Hc => ∃ acc, Same H3 (Off D1 Hc) ∧ Hc D1 = some (.lst acc) ∧ DpAll K (Off D1 Hc) acc ((js.take m).map (shJ far)))
      ⟨[], by rw [off_upd, off_none nD1]; exact Same.refl H3, upd_same, .nil⟩ (fun m Hc _ ⟨acc, s3, _⟩ => same_seqT (s3.trans (off_sub D1 Hc)) qj) ?_ ?_
    · rintro m y1 Hc0 Hc hm ⟨acc, s3', hD, dac⟩ ⟨rfl, hy1⟩
      obtain ⟨e1, he1, de1⟩ := dps_getV rj hy1
      obtain ⟨nm, k1, t1, x1, rfl, _, hk1⟩ := job_parts (List.all_eq_true.mp okj e1 (List.mem_of_getElem? he1))
      have s3F := s3'.trans (off_sub D1 Hc)
      obtain ⟨p1, v1, v2', v3, rfl, q1, dv1, dv2, dv3⟩ := dp_three de1
      obtain ⟨pa, kv, tv, rfl, qa, dk, dt⟩ := dp_two dv2
      have ek := dp_str dk
      subst ek
      have et := dp_int dt
      subst et
      have al := dps_len dac
      rw [List.length_map, List.length_take] at al
      refine ⟨p1, _, rfl, same_seqT s3F q1, rfl, _, _, rfl, _, _, rfl, ⟨pa, _, rfl, same_seqT s3F qa, rfl, _, _, rfl, _, _, rfl, rfl, _, _, rfl, rfl, rfl, ?_⟩⟩
      refine ⟨_, rfl, _, rfl, _, rfl, _, rfl, _, rfl, rfl, .inr ⟨_, rfl, ?_⟩⟩
      obtain ⟨b, eb, hb⟩ : ∃ b : Bool, b = decide (V.str k1 = V.str "at") ∧ t1 + far * (if b = true then 1 else 0) = (if k1 = "at" then t1 + far else t1) := by
        refine ⟨_, rfl, ?_⟩
        rcases hk1 with rfl | rfl
        · rw [if_pos (decide_eq_true rfl), if_pos rfl, Int.mul_one]
        · rw [if_neg (by decide +kernel), if_neg (by decide +kernel), Int.mul_zero, Int.add_zero]
      rw [← eb]
      refine ⟨_, _, rfl, rfl, .inr (by cases b <;> decide), _, _, rfl, rfl, (by show 2 ≤ sizeLine; decide), fun t nt => ?_⟩
      have di : ∀ H, Dp K H (.int (t1 + far * if b = true then 1 else 0)) (.int (if k1 = "at" then t1 + far else t1)) := fun H => by
        rw [hb]
        exact .int _
      have st := same_new (o := .tup [.str k1, .int (t1 + far * if b = true then 1 else 0)]) nt
      have tD : t ≠ D1 := fun e => by rw [e, hD] at nt; cases nt
      refine ⟨_, rfl, (by show 3 ≤ sizeLine; decide), fun t2 nt2 => ?_⟩
      have st2 := same_new (o := .tup [v1, .ref t, v3]) nt2
      have t2D : t2 ≠ D1 := fun e => by rw [e, st.at hD] at nt2; cases nt2
      have sAll := st.trans st2
      refine ⟨acc, sAll.at hD, Nat.lt_of_le_of_lt (show acc.length ≤ 900 by omega) (by decide), acc ++ [.ref t2], ?_, upd_same, ?_⟩
      · rw [off_upd]
        exact s3'.trans (off_mono sAll)
      · rw [off_upd, List.take_add_one, he1]
        show DpAll K _ _ (((js.take m) ++ [PyData.tuple [.str nm, .tuple [.str k1, .int t1], .int x1]]).map (shJ far))
        rw [List.map_append]
        have sH := s3'.trans (off_mono sAll)
        refine dps_app (dps_same (off_mono sAll) dac) (.cons (.tup (a := t2) (SqT.of ?_) (.cons (dp_same sH dv1) (.cons (.tup (a := t) (SqT.of ?_) (.cons (.str _) (.cons (di _) .nil))) (.cons (dp_same sH dv3) .nil)))) .nil)
        · rw [off_ne t2D, upd_same]
        · rw [off_ne tD]
          exact st2.at upd_same
    rintro G1 ⟨acc, t3, hD1, dac⟩
    rw [yl, List.take_length] at dac
    have sF1 := t3.trans (off_sub D1 G1)
    refine ⟨D1, acc, rfl, .inl ⟨SqL.of hD1, fun t1 n1 => ?_⟩⟩
    have g1 := same_new (o := .tup acc) n1
    have d1 : Dp K (upd G1 t1 (.tup acc)) (.ref t1) (.tuple (js.map (shJ far))) := .tup (SqT.of upd_same) (dps_same ((off_sub D1 G1).trans g1) dac)
    have sA := sF1.trans g1
    generalize upd G1 t1 (.tup acc) = G2 at d1 sA ⊢
    clear g1 dac hD1 sF1 t3 n1
    -- the log, later
    have qlA := same_seqT sA ql
    have rlA := dps_same sA rl
    refine ⟨_, rfl, _, rfl, pl, rfl, ⟨_, qlA⟩, fun D2 nD2 => ?_⟩
    refine lc_it (walk_tup (K := K) (a := pl) (xs := xs)) (fun m Hc => ∃ acc, Same G2 (Off D2 Hc) ∧ Hc D2 = some (.lst acc) ∧ DpAll K (Off D2 Hc) acc (((lg.take m).map (shP far)).map pairP))
      ⟨[], by rw [off_upd, off_none nD2]; exact Same.refl G2, upd_same, .nil⟩ (fun m Hc _ ⟨acc, s3, _⟩ => same_seqT (s3.trans (off_sub D2 Hc)) qlA) ?_ ?_
    · rintro m y1 Hc0 Hc hm ⟨acc, s3', hD, dac⟩ ⟨rfl, hy1⟩
      obtain ⟨d1', hd1, dd1⟩ := dps_getV rlA hy1
      rw [List.getElem?_map] at hd1
      obtain ⟨p, hp, rfl⟩ := Option.map_eq_some_iff.mp hd1
      have s3F := s3'.trans (off_sub D2 Hc)
      obtain ⟨pp, xv, yv, rfl, qp, dx, dy⟩ := dp_two (dp_same s3F dd1)
      have ex := dp_int dx
      subst ex
      have ey := dp_int dy
      subst ey
      have al := dps_len dac
      rw [List.length_map, List.length_map, List.length_take] at al
      refine ⟨pp, _, rfl, qp, rfl, _, _, rfl, _, _, rfl, rfl, rfl, ?_⟩
      refine ⟨_, rfl, _, rfl, _, _, rfl, rfl, _, rfl, (by show 2 ≤ sizeLine; decide), fun t nt => ?_⟩
      have st := same_new (o := .tup [.int (p.1 + far), .int p.2]) nt
      have tD : t ≠ D2 := fun e => by rw [e, hD] at nt; cases nt
      refine ⟨acc, st.at hD, Nat.lt_of_le_of_lt (show acc.length ≤ 900 by omega) (by decide), acc ++ [.ref t], ?_, upd_same, ?_⟩
      · rw [off_upd]
        exact s3'.trans (off_mono st)
      · rw [off_upd, List.take_add_one, hp]
        show DpAll K _ _ (((lg.take m ++ [p]).map (shP far)).map pairP)
        rw [List.map_append, List.map_append]
        refine dps_app (dps_same (off_mono st) dac) (.cons (.tup (a := t) (SqT.of ?_) (.cons (.int _) (.cons (.int _) .nil))) .nil)
        rw [off_ne tD]
        exact upd_same
    rintro G3 ⟨acc2, t3, hD2, dac2⟩
    rw [xl, List.take_length] at dac2
    have sF2 := t3.trans (off_sub D2 G3)
    refine ⟨D2, acc2, rfl, .inl ⟨SqL.of hD2, fun t2 n2 => ?_⟩⟩
    have g2 := same_new (o := .tup acc2) n2
    have d2' : Dp K (upd G3 t2 (.tup acc2)) (.ref t2) (.tuple ((lg.map (shP far)).map pairP)) := .tup (SqT.of upd_same) (dps_same ((off_sub D2 G3).trans g2) dac2)
    have sB := sF2.trans g2
    generalize upd G3 t2 (.tup acc2) = G4 at d2' sB ⊢
    clear g2 dac2 hD2 sF2 t3 n2
    have okL := shJ_all (far := far) (by omega) okj
    have ascL : Asc 0 (lg.map (shP far)) := asc_sh (by omega) asc (by omega)
    have sAB := sA.trans sB
    -- presence
    refine ⟨.ref t1, .ref t2, js.map (shJ far), .tuple ((lg.map (shP far)).map pairP), rfl, dp_same sB d1, okL, by rw [List.length_map]; exact l9, fine_place okL (sh_fine okj fine), (s3.trans sAB).tab T tg, d2', by rw [len_log, List.length_map]; exact ll, fun lg3 hp3 e4 ho3 => ?_, fun i hi dx H' _ _ => ?_⟩
    case refine_2 =>
      refine absurd (fault_not (js := js.map (shJ far)) hi (log_none ascL) rfl ?_) id
      rw [sh_over okj]
      exact ho
    have e5 := pairs_inj (PyData.tuple.inj e4)
    subst e5
    refine ⟨fun e => absurd e (by simpa using ne), fun _ ns v3 G5 pw mem s5 d3 => ?_⟩
    rw [pres_rows okL ascL (by simpa using ne) pw mem] at d3
    have sC := (s3.trans sAB).trans s5
    -- due
    refine ⟨_, rfl, _, rfl, .ref pj, .ref pl, js, _, rfl, dp_same sC hd, okj, by omega, dp_same sC hu, by omega, uB3, fun i hi H2 s2 => absurd (fault_not hi lp rfl ho) id, fun lg4 _ e6 ho4 v4 G6 s6 d4 => ?_⟩
    have e7 := pairs_inj (PyData.tuple.inj e6)
    subst e7
    have d3 := dp_same s6 d3
    have sD := sC.trans s6
    obtain ⟨q0, r0, eR⟩ : ∃ q r, rowsL js [] 0 0 lg = q :: r := by
      cases hR : rowsL js [] 0 0 lg with
      | cons q r => exact ⟨q, r, rfl⟩
      | nil =>
        have h1 := rows_units js lg [] [] 0 asc (by simp)
        rw [show ((([] : List (Int × Int)).map (·.2)).sum) = (0 : Int) from rfl, List.nil_append, hR] at h1
        cases lg with
        | nil => exact absurd rfl ne
        | cons p t =>
          have z2 := asc_end_le asc.2.2
          have z3 := asc.1
          have e8 : (endU 0 (p :: t) - 0).toNat = (endU p.1 t - 1).toNat + 1 := by
            show (endU p.1 t - 0).toNat = _
            omega
          rw [e8, unitsF_succ, List.foldl_append] at h1
          exact absurd h1.symm joinS_ne
    have lR : (r0.length : Int) + 1 ≤ 1003000 := by
      have h1 := rows_units js lg [] [] 0 asc (by simp)
      rw [show ((([] : List (Int × Int)).map (·.2)).sum) = (0 : Int) from rfl, List.nil_append, eR] at h1
      have z := fold_len (ps := unitsF (hereM js lg) 0 (endU 0 lg - 0).toNat) (acc := [])
      rw [← h1, unitsF_len, List.length_cons, List.length_nil] at z
      have z2 : endU 0 lg ≤ 1002500 := by
        rw [endU_last ne]
        unfold lastU
        cases hl : lg.getLast? with
        | none => decide
        | some p => exact ub p (List.mem_of_getLast? hl)
      omega
    have LR := later_rows okj asc ne f1 eR
    rw [LR] at d3
    rw [eR] at d4
    clear LR eR
    obtain ⟨pR, zs, rfl, qR, rR⟩ := dp_tuple d4
    have zl := dps_len rR
    rw [List.length_map] at zl
    refine ⟨pR, rfl, ⟨_, qR⟩, fun D3 nD3 => ?_⟩
    refine lc_it (walk_tup (K := K) (a := pR) (xs := zs)) (fun m Hc => ∃ acc, Same G6 (Off D3 Hc) ∧ Hc D3 = some (.lst acc) ∧ DpAll K (Off D3 Hc) acc ((((q0 :: r0).take m).map (shT far)).map trD))
      ⟨[], by rw [off_upd, off_none nD3]; exact Same.refl G6, upd_same, .nil⟩ (fun m Hc _ ⟨acc, s3, _⟩ => same_seqT (s3.trans (off_sub D3 Hc)) qR) ?_ ?_
    · rintro m y1 Hc0 Hc hm ⟨acc, s3', hD, dac⟩ ⟨rfl, hy1⟩
      obtain ⟨d1', hd1, dd1⟩ := dps_getV rR hy1
      rw [List.getElem?_map] at hd1
      obtain ⟨p, hp, rfl⟩ := Option.map_eq_some_iff.mp hd1
      have s3F := s3'.trans (off_sub D3 Hc)
      obtain ⟨pp, xv, yv, zv, rfl, qp, dx, dy, dz⟩ := dp_three (dp_same s3F dd1)
      have ex := dp_int dx
      subst ex
      have ey := dp_int dy
      subst ey
      have ez := dp_int dz
      subst ez
      have al := dps_len dac
      rw [List.length_map, List.length_map, List.length_take, List.length_cons] at al
      refine ⟨pp, _, rfl, qp, rfl, _, _, rfl, _, _, rfl, _, _, rfl, rfl, rfl, ?_⟩
      refine ⟨_, rfl, _, rfl, _, _, rfl, rfl, _, rfl, _, rfl, _, _, rfl, rfl, _, rfl, (by show 3 ≤ sizeLine; decide), fun t nt => ?_⟩
      have st := same_new (o := .tup [.int (p.1 + far), .int (p.2.1 + far), .int p.2.2]) nt
      have tD : t ≠ D3 := fun e => by rw [e, hD] at nt; cases nt
      refine ⟨acc, st.at hD, Nat.lt_of_le_of_lt (show acc.length ≤ 1003000 by omega) (by decide), acc ++ [.ref t], ?_, upd_same, ?_⟩
      · rw [off_upd]
        exact s3'.trans (off_mono st)
      · rw [off_upd, List.take_add_one, hp]
        show DpAll K _ _ ((((q0 :: r0).take m ++ [p]).map (shT far)).map trD)
        rw [List.map_append, List.map_append]
        refine dps_app (dps_same (off_mono st) dac) (.cons (.tup (a := t) (SqT.of ?_) (.cons (.int _) (.cons (.int _) (.cons (.int _) .nil)))) .nil)
        rw [off_ne tD]
        exact upd_same
    rintro G7 ⟨acc3, t7, hD3, dac3⟩
    rw [zl, List.take_length] at dac3
    have sE := t7.trans (off_sub D3 G7)
    have d3 := dp_same sE d3
    have dac3 := dps_same (off_sub D3 G7) dac3
    have al := dps_len dac3
    rw [List.length_map, List.length_map, List.length_cons] at al
    have sG := sD.trans sE
    clear t7
    -- the first
    obtain ⟨a0, ar, rfl⟩ : ∃ a0 ar, acc3 = a0 :: ar := by
      cases acc3 with
      | nil => exact absurd al (by simp)
      | cons a0 ar => exact ⟨a0, ar, rfl⟩
    have hat : atI (a0 :: ar) 0 = some a0 := atI_nat (j := 0) rfl
    cases dac3 with
    | cons da0 dar =>
    obtain ⟨pp, xv, yv, zv, rfl, qp, dx, dy, dz⟩ := dp_three da0
    have ez := dp_int dz
    subst ez
    have ey := dp_int dy
    subst ey
    have small : ar.length ≤ 1003000 := by
      rw [List.length_cons] at al
      omega
    refine ⟨_, rfl, D3, _, _, _, rfl, rfl, SqL.of hD3, hat, pp, _, _, _, rfl, rfl, qp, rfl, rfl, _, rfl, ?_⟩
    refine ite2 (fun hz => ?_) (fun hz => ?_)
    · have e0 : (shT far q0).2.2 = 0 := V.int.inj (of_decide_eq_true hz)
      replace e0 : q0.2.2 = 0 := e0
      rw [if_pos e0] at d3
      refine ⟨_, rfl, _, rfl, D3, _, _, _, rfl, rfl, SqL.of hD3, hat, pp, _, _, _, rfl, rfl, qp, rfl, (by show 3 ≤ sizeLine; decide), fun t8 n8 => ?_⟩
      have g8 := same_new (o := .tup [.int 1, .int (shT far q0).2.1, .int 0]) n8
      refine ⟨(by show 1 ≤ sizeLine; decide), fun t9 n9 => ?_⟩
      have g9 := same_new (o := .lst [.ref t8]) n9
      have g89 := g8.trans g9
      refine ⟨_, rfl, _, rfl, ?_⟩
      dsimp only [tNoPart]
      refine ⟨D3, _, rfl, SqL.of (g89.at hD3), fun p7 n7 => ?_⟩
      rw [cut1 (by simp)]
      have g7 := same_new (o := .lst ((V.ref pp :: ar).drop 1)) n7
      refine ⟨t9, p7, _, _, rfl, rfl, g7.at upd_same, upd_same, ?_, fun p5 n5 => ?_⟩
      · show 1 + ar.length ≤ sizeLine
        exact Nat.le_trans (show 1 + ar.length ≤ 1003001 by omega) (by decide)
      have g5 := same_new (o := .lst ([V.ref t8] ++ (V.ref pp :: ar).drop 1)) n5
      refine ⟨p5, _, rfl, .inl ⟨SqL.of upd_same, fun t6 n6 => ?_⟩⟩
      have g6 := same_new (o := .tup ([V.ref t8] ++ (V.ref pp :: ar).drop 1)) n6
      have gA := ((g89.trans g7).trans g5).trans g6
      have sh := shaped_trs ((1, q0.2.1 + far, 0) :: r0.map (shT far))
      have dN : Dp K _ (.ref t6) (.tuple (((1, q0.2.1 + far, 0) :: r0.map (shT far)).map trD)) := .tup (SqT.of upd_same) (.cons (.tup (a := t8) (SqT.of ((((g9.trans g7).trans g5).trans g6).at upd_same)) (.cons (.int _) (.cons (.int _) (.cons (.int _) .nil)))) (dps_same gA dar))
      refine ⟨_, _, dp_same gA d3, dN, sh, sh, ?_⟩
      show Q (.bl (PyData.eqv _ _)) _
      rw [SeqAt.eqv_refl _ (SeqAt.canLay_of_shaped sh)]
      exact k _ (sG.trans gA)
    · have e0 : ¬ q0.2.2 = 0 := fun e => hz (decide_eq_true (show V.int q0.2.2 = V.int 0 by rw [e]))
      rw [if_neg e0] at d3
      refine ⟨_, rfl, _, rfl, (by show 3 ≤ sizeLine; decide), fun t8 n8 => ?_⟩
      have g8 := same_new (o := .tup [.int 1, .int far, .int 0]) n8
      refine ⟨(by show 1 ≤ sizeLine; decide), fun t9 n9 => ?_⟩
      have g9 := same_new (o := .lst [.ref t8]) n9
      have g89 := g8.trans g9
      refine ⟨_, rfl, t9, D3, _, _, rfl, rfl, upd_same, g89.at hD3, ?_, fun p5 n5 => ?_⟩
      · show 1 + (ar.length + 1) ≤ sizeLine
        exact Nat.le_trans (show 1 + (ar.length + 1) ≤ 1003002 by omega) (by decide)
      have g5 := same_new (o := .lst ([V.ref t8] ++ (V.ref pp :: ar))) n5
      refine ⟨p5, _, rfl, .inl ⟨SqL.of upd_same, fun t6 n6 => ?_⟩⟩
      have g6 := same_new (o := .tup ([V.ref t8] ++ (V.ref pp :: ar))) n6
      have gA := (g89.trans g5).trans g6
      have sh := shaped_trs ((1, far, 0) :: shT far q0 :: r0.map (shT far))
      have dN : Dp K _ (.ref t6) (.tuple (((1, far, 0) :: shT far q0 :: r0.map (shT far)).map trD)) := .tup (SqT.of upd_same) (.cons (.tup (a := t8) (SqT.of (((g9.trans g5).trans g6).at upd_same)) (.cons (.int _) (.cons (.int _) (.cons (.int _) .nil)))) (dps_same gA (.cons da0 dar)))
      refine ⟨_, _, dp_same gA d3, dN, sh, sh, ?_⟩
      show Q (.bl (PyData.eqv _ _)) _
      rw [SeqAt.eqv_refl _ (SeqAt.canLay_of_shaped sh)]
      exact k _ (sG.trans gA)
end
end Vk
namespace Vk
open PySem PySem.Spec PyProof.Rows L2 GxR
theorem nt0 {K : PySem.W.Frag} {p : Addr} {G : Hp} {vs : List V} {ds : List PyData} (np : G p = none) (h : DpAll K G vs ds) : Dp K (upd G p (.tup vs)) (.ref p) (.tuple ds) := .tup (SqT.of upd_same) (dps_same (same_new np) h)
theorem uD_mono {B C : Int} (h : B ≤ C) {d : PyData} (u : uD B d) : uD C d := by
  unfold uD at u ⊢
  split at u
  · exact Int.le_trans u h
  · trivial
theorem uB_mono {B C : Int} (h : B ≤ C) {d : PyData} (u : uB B d) : uB C d := by
  unfold uB at u ⊢
  split at u
  · exact fun e he => uD_mono h (u e he)
  · trivial
theorem uB_pairs {B : Int} {lg : List (Int × Int)} (u : uB B (.tuple (lg.map pairP))) : ∀ p ∈ lg, p.1 ≤ B := fun p hp => u (pairP p) (List.mem_map.mpr ⟨p, hp, rfl⟩)
def js1 : List PyData := [.tuple [.str "a", .tuple [.str "at", .int 3], .int 0]]
theorem js1_ok : js1.all jobD = true := by decide +kernel
theorem js1_pl : jobsPlace (.tuple js1) = none := by decide +kernel
section
variable {P : Program} {w : World} {K : PySem.W.Frag} {mg : Str → Option Value} {base : Heap}
def spLaw (K : PySem.W.Frag) (T : Addr) : Sp := fun vs H Q _ => ∃ (a : Addr) (ns : List Int), vs = [.ref a] ∧ SqL K H a (ns.map V.int) ∧ ns.length ≤ 63 ∧ TabG H T ∧ ∀ H', Q (.bl true) H'
theorem scLaw : FnScope ["script", "store", "turn", "jobs", "log", "k", "bad"] ["script"] (defScope sLaw) := ⟨rfl, rfl, rfl, by decide +kernel, rfl, by decide +kernel, by decide +kernel⟩
theorem ok_law {f T C : Addr} {fd : FuncData} (F : Fun K "law" "law" sLaw f fd) (B : Blt mg) (ST : Cl P w K mg base CX0 1 "_law_store" ["script"] (spStore K)) (PK : Cl P w K mg base CX0 2 "_law_pick" ["store", "count"] spPick) (JB : Cl P w K mg base CX0 4 "_law_jobs" ["store", "most", "late"] (spJobs K))
    (LG : Cl P w K mg base CX0 3 "_law_log" ["store", "jobs", "cores", "wide"] (spLog K)) (BL : Cl P w K mg base CX0 3 "_law_bad_log" ["store", "log"] (spBadLog K)) (LF : Cl P w K mg base CX0 2 "_law_log_fault" ["log"] (spLogFault K)) (RT : Cl P w K mg base CX0 7 "_law_right" ["jobs", "log"] (spRight K T))
    (LR : Cl P w K mg base CX0 7 "_law_later_right" ["jobs", "log"] (spLr K T)) (PR : Cl P w K mg base (L2.CX P w) 6 "presence" ["jobs", "log"] (spPresence K T C)) :
    FnOk P w K mg base CX0 8 f fd ["script"] (spLaw K T) := by
  refine F.ok scLaw (fun vs H Q E h => ?_) (fun cdv A outer s H vs Q E hr h => ?_)
  · obtain ⟨a, ns, rfl, _⟩ := h
    rfl
  · obtain ⟨a, ns, rfl, hS, hlen, tg, k⟩ := h
    obtain ⟨fC, fdC, mC, kpC, bC, FC⟩ := PR.ex
    refine ⟨_, pss_cons (ps_set (i := 1) scLaw.nd rfl (Or.inl rfl) (pc ST hr (by decide) (pa_cons (pv 0) pa_nil)))
      (pss_cons (ps_for PassesOwn.never rfl (pi_range1 rfl B.range (pa_cons pe_int pa_nil)) (pg_name (i := 2) scLaw.nd rfl (Or.inl rfl))
        (pss_cons (ps_set (i := 3) scLaw.nd rfl (Or.inl rfl) (pc JB hr (by decide) (pa_cons (pv 1) (pa_cons (pe_ix ix_list (pe_lst (pa_cons pe_int (pa_cons pe_int (pa_cons pe_int pa_nil)))) (pv 2) (fun _ _ => rfl)) (pa_cons pe_int pa_nil)))))
        (pss_cons (ps_set (i := 4) scLaw.nd rfl (Or.inl rfl) (pc LG hr (by decide) (pa_cons (pv 1) (pa_cons (pv 3) (pa_cons (pe_op op_add pe_int (pc PK hr (by decide) (pa_cons (pv 1) (pa_cons pe_int pa_nil)))) (pa_cons pe_int pa_nil))))))
        (pss_cons (ps_if (PW.pt (pw_or (pt_not (pt_val (pc RT hr (by decide) (pa_cons (pv 3) (pa_cons (pv 4) pa_nil))))) (pw_or1 (pt_not (pt_val (pc LR hr (by decide) (pa_cons (pv 3) (pa_cons (pv 4) pa_nil)))))))) (pss_one (ps_ret pe_bl)) pss_nil)
        (pss_one (ps_for PassesOwn.never rfl (pi_range1 rfl B.range (pa_cons pe_int pa_nil)) (pg_name (i := 5) scLaw.nd rfl (Or.inl rfl))
          (pss_cons (ps_set (i := 6) scLaw.nd rfl (Or.inl rfl) (pc BL hr (by decide) (pa_cons (pv 1) (pa_cons (pv 4) pa_nil))))
          (pss_cons (ps_if (pt_not (pt_val (pc RT hr (by decide) (pa_cons (pv 3) (pa_cons (pv 6) pa_nil))))) (pss_one (ps_ret pe_bl)) pss_nil)
          (pss_one (ps_if (PW.pt (pw_and (pt_cmpR op_isN (pc LF hr (by decide) (pa_cons (pv 6) pa_nil)) pe_non (nomark _)) (pw_and1 (pt_not (pt_val (pc RT hr (by decide) (pa_cons (pv 3) (pa_cons (pc BL hr (by decide) (pa_cons (pv 1) (pa_cons (pv 6) pa_nil))) pa_nil)))))))) (pss_one (ps_ret pe_bl)) pss_nil))))))))))
      (pss_one (ps_ret (pe_and (pe_cmpR (op_eqD hr.units) (pe_call (E := E0) FC (hr.mono (by decide)) rfl mC kpC bC .nil passE0 (pa_cons (pe_tup pa_nil) (pa_cons (pe_tup pa_nil) pa_nil))) (pe_tup pa_nil) (nomark _))
        (pe_one (pc RT hr (by decide) (pa_cons (pe_tup (pa_cons (pe_tup (pa_cons pe_str (pa_cons (pe_tup (pa_cons pe_str (pa_cons pe_int pa_nil))) (pa_cons pe_int pa_nil)))) pa_nil)) (pa_cons (pe_tup (pa_cons (pe_tup (pa_cons pe_int (pa_cons pe_int pa_nil))) pa_nil)) pa_nil)))))))), ?_⟩
    refine ⟨_, rfl, a, ns, rfl, hS, hlen, fun st sc H1 s1 nst S1 => ?_⟩
    have tg1 := s1.tab T tg
    refine ⟨3, rfl, by decide, by decide, ?_⟩
    refine for_range (lo := 0) (n := 3) (fun i σ G => ∃ (u2 u3 u4 u5 u6 : Option V), σ = [some (.ref a), some (.ref st), u2, u3, u4, u5, u6] ∧ Sto sc st (2000 * i) G ∧ TabG G T)
      ⟨none, none, none, none, none, rfl, S1.more (by omega), tg1⟩ ?_ ?_
    · rintro i σ G hi ⟨u2, u3, u4, u5, u6, rfl, SG, tG⟩
      -- jobs
      refine ⟨_, rfl, (by show 3 ≤ sizeLine; decide), fun q nq => ?_⟩
      have sq := same_new (o := .lst [.int 6, .int 12, .int 3]) nq
      obtain ⟨mo, hmo, mo0, mo12⟩ : ∃ mo : Int, atI [V.int 6, .int 12, .int 3] ((0 : Int) + (i : Nat)) = some (.int mo) ∧ 0 ≤ mo ∧ mo ≤ 12 := by
        rw [Int.zero_add]
        match i, hi with
        | 0, _ => exact ⟨6, rfl, by decide, by decide⟩
        | 1, _ => exact ⟨12, rfl, by decide, by decide⟩
        | 2, _ => exact ⟨3, rfl, by decide, by decide⟩
      refine ⟨_, rfl, q, _, _, _, rfl, rfl, SqL.of upd_same, hmo, st, sc, 2000 * i, mo, 60, rfl, SG.same sq, by omega, mo0, mo12, by decide, by decide, fun v js G1 SG1 KG1 dv okj l12 fine bd => ?_⟩
      have tG1 := KG1.tab (SG.same sq) (sq.tab T tG)
      have jp := fine_place okj fine
      -- log
      refine ⟨_, rfl, _, rfl, _, rfl, st, sc, 8, _, rfl, by decide, by decide, SG1, by omega, fun r G2 r0 r8 SG2 KG2 => ?_⟩
      have tG2 := KG2.tab SG1 tG1
      refine ⟨_, _, rfl, rfl, st, sc, _, v, js, 1 + r, 12, rfl, SG2, by omega, dp_same KG2 dv, okj, l12, fine, bd, by omega, by decide, by decide, fun t lg G3 SG3 KG3 dt asc ll lb => ?_⟩
      have tG3 := KG3.tab SG2 tG2
      have dv3 := dp_same KG3 (dp_same KG2 dv)
      have ub3 : uB 1003000 (.tuple (lg.map pairP)) := uPairs lb (by decide)
      have lenu : lenLog (.tuple (lg.map pairP)) ≤ 20 := by rw [len_log]; omega
      refine ⟨_, rfl, _, rfl, v, t, js, _, rfl, dp_on dv3, okj, by omega, jp, tG3, dp_on dt, lenu, ub3, fun J s => ⟨_, rfl, iteF ?_⟩⟩
      have tJ1 := s.tab T tG3
      refine ⟨_, rfl, _, rfl, v, t, js, lg, rfl, dp_on (dp_up s dv3), okj, by omega, fine, tJ1, dp_on (dp_up s dt), asc, by omega, lb, fun J2 s2 => ⟨_, rfl, iteF ?_⟩⟩
      have s12 := s.trans s2
      have tJ := s2.tab T tJ1
      have dvJ := dp_up s12 dv3
      have dtJ := dp_up s12 dt
      have SJ := SG3.same s12
      generalize J2 = J' at s2 s12 tJ dvJ dtJ SJ ⊢
      -- bad logs
      refine ⟨3, rfl, by decide, by decide, ?_⟩
      refine for_range (lo := 0) (n := 3) (fun j σ G => ∃ (u5 u6 : Option V), σ = [some (.ref a), some (.ref st), some (.int (0 + i)), some v, some t, u5, u6] ∧ Sto sc st (2000 * i + 1101 + 20 * j) G ∧ Kept st J' G ∧ TabG G T)
        ⟨_, _, rfl, SJ.more (by omega), Kept.refl st J', tJ⟩ ?_ ?_
      · rintro j σ L hj ⟨w7, w8, rfl, SL, KL, tL⟩
        have dtL := dp_same KL dtJ
        refine ⟨_, rfl, _, rfl, st, sc, st, _, t, lg, rfl, SL, SL.hasA, by omega, by rw [of2_self]; exact dtL, by omega, 1002500, by decide, lb, fun bv bd' L1 SL1 KL1 dbd lbd ubd => ?_⟩
        rw [of2_self] at dbd
        have tL1 := KL1.tab SL tL
        have K1 := KL.trans KL1
        have dv1 := dp_same K1 dvJ
        refine ⟨_, rfl, _, rfl, v, bv, js, bd', rfl, dp_on dv1, okj, by omega, jp, tL1, dp_on dbd, by omega, uB_mono (by decide) ubd, fun L2 sL2 => ⟨_, rfl, iteF ?_⟩⟩
        have db2 := dp_up sL2 dbd
        refine ⟨_, rfl, bv, bd', rfl, dp_on db2, by omega, fun L3 sL3 => ?_⟩
        have s23 := sL2.trans sL3
        have SL3 := SL1.same s23
        have tL3 := s23.tab T tL1
        cases hp : logPlace bd' with
        | some p => exact ⟨rfl, _, rfl, iteF (iteF ⟨_, _, rfl, SL3.more (by omega), K1.trans (kept_same s23), tL3⟩)⟩
        | none =>
          refine ⟨rfl, _, rfl, iteT ?_⟩
          obtain ⟨lg2, rfl, _⟩ := log_pairs hp
          have l2 : lg2.length ≤ lg.length + 1 := by
            rw [len_log] at lbd
            exact lbd
          have db3 := dp_up s23 dbd
          refine ⟨_, rfl, _, rfl, _, rfl, st, sc, st, _, bv, lg2, rfl, SL3, SL3.hasA, by omega, by rw [of2_self]; exact db3, by omega, 1002501, by decide, uB_pairs ubd, fun cv cd L4 SL4 KL4 dcd lcd ucd => ?_⟩
          rw [of2_self] at dcd
          have tL4 := KL4.tab SL3 tL3
          have K4 := (K1.trans (kept_same s23)).trans KL4
          refine ⟨v, cv, js, cd, rfl, dp_on (dp_same K4 dvJ), okj, by omega, jp, tL4, dp_on dcd, by omega, uB_mono (by decide) ucd, fun L5 sL5 => ⟨_, rfl, iteF ?_⟩⟩
          exact ⟨_, _, rfl, (SL4.same sL5).more (by omega), K4.trans (kept_same sL5), sL5.tab T tL4⟩
      · rintro σ L ⟨w7, w8, rfl, SL, KL, tL⟩
        exact ⟨_, _, _, _, _, rfl, SL.more (by omega), tL⟩
    · rintro σ G ⟨u2, u3, u4, u5, u6, rfl, SG, tG⟩
      refine ⟨(by show 0 ≤ sizeLine; decide), fun p9 n9 => ?_⟩
      have d9 := nt0 (K := K) (vs := []) n9 .nil
      have s9 := same_new (o := .tup []) n9
      refine ⟨(by show 0 ≤ sizeLine; decide), fun pa na => ?_⟩
      have da := nt0 (K := K) (vs := []) na .nil
      have sa := same_new (o := .tup []) na
      have lp0 : logPlace (.tuple (([] : List (Int × Int)).map pairP)) = none := rfl
      have t9 := (s9.trans sa).tab T tG
      refine ⟨.ref p9, .ref pa, [], .tuple (([] : List (Int × Int)).map pairP), rfl, dp_same sa d9, rfl, by decide, rfl, t9, da, by decide, fun lg2 _ e2 _ => ⟨fun _ v2 H2 s2 dv2 => ?_, fun ne => absurd (pairs_inj (PyData.tuple.inj e2)).symm ne⟩, fun p e => absurd (fault_not e lp0 rfl rfl) id⟩
      refine ⟨(by show 0 ≤ sizeLine; decide), fun pb nb => ?_⟩
      have db := nt0 (K := K) (vs := []) nb .nil
      have sb := same_new (o := .tup []) nb
      have sh : SeqAt.shaped (.tuple []) = true := by decide +kernel
      refine ⟨_, _, dp_same sb dv2, db, sh, sh, _, rfl, ?_⟩
      rw [SeqAt.eqv_refl _ (SeqAt.canLay_of_shaped sh)]
      refine iteT ?_
      have tb := (s2.trans sb).tab T t9
      refine ⟨(by show 2 ≤ sizeLine; decide), fun p1 n1 => ?_⟩
      have d1 := nt0 (K := K) (vs := [.str ("at" : Str), .int 3]) n1 (.cons (.str _) (.cons (.int _) .nil))
      have s1 := same_new (o := .tup [.str ("at" : Str), .int 3]) n1
      refine ⟨(by show 3 ≤ sizeLine; decide), fun p2 n2 => ?_⟩
      have d2 := nt0 (K := K) (vs := [.str ("a" : Str), .ref p1, .int 0]) n2 (.cons (.str _) (.cons d1 (.cons (.int _) .nil)))
      have s2 := same_new (o := .tup [.str ("a" : Str), .ref p1, .int 0]) n2
      refine ⟨(by show 1 ≤ sizeLine; decide), fun p5 n5 => ?_⟩
      have d5 := nt0 (K := K) (vs := [.ref p2]) n5 (.cons d2 .nil)
      have s5 := same_new (o := .tup [.ref p2]) n5
      replace d5 : Dp K _ (.ref p5) (.tuple js1) := d5
      have t5 := ((s1.trans s2).trans s5).tab T tb
      generalize upd _ p5 (.tup [.ref p2]) = G5 at d5 t5 ⊢
      refine ⟨(by show 2 ≤ sizeLine; decide), fun p6 n6 => ?_⟩
      have d6 := nt0 (K := K) (vs := [.int 9, .int 1]) n6 (.cons (.int _) (.cons (.int _) .nil))
      have s6 := same_new (o := .tup [.int 9, .int 1]) n6
      refine ⟨(by show 1 ≤ sizeLine; decide), fun p8 n8 => ?_⟩
      have d8 := nt0 (K := K) (vs := [.ref p6]) n8 (.cons d6 .nil)
      have s8 := same_new (o := .tup [.ref p6]) n8
      have s68 := s6.trans s8
      replace d8 : Dp K _ (.ref p8) (.tuple ([((9 : Int), (1 : Int))].map pairP)) := d8
      exact ⟨.ref p5, .ref p8, js1, _, rfl, dp_same s68 d5, js1_ok, by decide, js1_pl, s68.tab T t5, d8, by rw [len_log]; decide, u1 (show (9 : Int) ≤ 1003000 by decide), fun H' _ => k H'⟩
end
end Vk
namespace Vk
open PySem PySem.Spec PyProof.Rows L2 GxR
/-- what the law needs of a head: the promise of its def, over the empty table of one code object -/
def LawTab (l : PySem.W.OpenLaw) (w : World) (K : PySem.W.Frag) (mg : Str → Option Value) (fa : Addr) : Prop := ∃ (fd : FuncData) (c P : Addr), PySem.W.tabIn K "is_name" = some (c, P) ∧ K.lookup P = none ∧
  (∀ (s : Shared) (u : Value), BindsTo s fd ⟨[u], []⟩ [("script", u)]) ∧ ∀ base : Heap, K.In base → base.Ns mainGlobals mg → TabB base mg c P → FnOk l.prog w K mg base CX0 8 fa fd ["script"] (spLaw K P)

theorem all_mk {l : PySem.W.OpenLaw} {w : World} {K : PySem.W.Frag} {h : Heap} {mg : Str → Option Value} {fa : Addr} (X : K.In h) (G : h.Ns mainGlobals mg) (hfa : mg "law" = some (.ref fa))
    {f0 : Addr} {oc0 kV0 dc0 pm0 cd0 ct0 : Value} {od0 an0 : Option Addr} {sl0 : Array (Option Value)}
    {f1 : Addr} {oc1 kV1 dc1 pm1 cd1 ct1 : Value} {od1 an1 : Option Addr} {sl1 : Array (Option Value)}
    {f2 : Addr} {oc2 kV2 dc2 pm2 cd2 ct2 : Value} {od2 an2 : Option Addr} {sl2 : Array (Option Value)}
    {f3 : Addr} {oc3 kV3 dc3 pm3 cd3 ct3 : Value} {od3 an3 : Option Addr} {sl3 : Array (Option Value)}
    {f4 : Addr} {oc4 kV4 dc4 pm4 cd4 ct4 : Value} {od4 an4 : Option Addr} {sl4 : Array (Option Value)}
    {f5 : Addr} {oc5 kV5 dc5 pm5 cd5 ct5 : Value} {od5 an5 : Option Addr} {sl5 : Array (Option Value)}
    {f6 : Addr} {oc6 kV6 dc6 pm6 cd6 ct6 : Value} {od6 an6 : Option Addr} {sl6 : Array (Option Value)}
    {f7 : Addr} {oc7 kV7 dc7 pm7 cd7 ct7 : Value} {od7 an7 : Option Addr} {sl7 : Array (Option Value)}
    {f8 : Addr} {oc8 kV8 dc8 pm8 cd8 ct8 : Value} {od8 an8 : Option Addr} {sl8 : Array (Option Value)}
    {f9 : Addr} {oc9 kV9 dc9 pm9 cd9 ct9 : Value} {od9 an9 : Option Addr} {sl9 : Array (Option Value)}
    {f10 : Addr} {oc10 kV10 dc10 pm10 cd10 ct10 : Value} {od10 an10 : Option Addr} {sl10 : Array (Option Value)}
    {f11 : Addr} {oc11 kV11 dc11 pm11 cd11 ct11 : Value} {od11 an11 : Option Addr} {sl11 : Array (Option Value)}
    {f12 : Addr} {oc12 kV12 dc12 pm12 cd12 ct12 : Value} {od12 an12 : Option Addr} {sl12 : Array (Option Value)}
    {f13 : Addr} {oc13 kV13 dc13 pm13 cd13 ct13 : Value} {od13 an13 : Option Addr} {sl13 : Array (Option Value)}
    {f14 : Addr} {oc14 kV14 dc14 pm14 cd14 ct14 : Value} {od14 an14 : Option Addr} {sl14 : Array (Option Value)}
    {f15 : Addr} {oc15 kV15 dc15 pm15 cd15 ct15 : Value} {od15 an15 : Option Addr} {sl15 : Array (Option Value)}
    {f16 : Addr} {oc16 kV16 dc16 pm16 cd16 ct16 : Value} {od16 an16 : Option Addr} {sl16 : Array (Option Value)}
    {f17 : Addr} {oc17 kV17 dc17 pm17 cd17 ct17 : Value} {od17 an17 : Option Addr} {sl17 : Array (Option Value)}
    {f18 : Addr} {oc18 kV18 dc18 pm18 cd18 ct18 : Value} {od18 an18 : Option Addr} {sl18 : Array (Option Value)}
    {f19 : Addr} {oc19 kV19 dc19 pm19 cd19 ct19 : Value} {od19 an19 : Option Addr} {sl19 : Array (Option Value)}
    {f20 : Addr} {oc20 kV20 dc20 pm20 cd20 ct20 : Value} {od20 an20 : Option Addr} {sl20 : Array (Option Value)}
    {f21 : Addr} {oc21 kV21 dc21 pm21 cd21 ct21 : Value} {od21 an21 : Option Addr} {sl21 : Array (Option Value)}
    {f22 : Addr} {oc22 kV22 dc22 pm22 cd22 ct22 : Value} {od22 an22 : Option Addr} {sl22 : Array (Option Value)}
    {f23 : Addr} {oc23 kV23 dc23 pm23 cd23 ct23 : Value} {od23 an23 : Option Addr} {sl23 : Array (Option Value)}
    {f24 : Addr} {oc24 kV24 dc24 pm24 cd24 ct24 : Value} {od24 an24 : Option Addr} {sl24 : Array (Option Value)}
    {f25 : Addr} {oc25 kV25 dc25 pm25 cd25 ct25 : Value} {od25 an25 : Option Addr} {sl25 : Array (Option Value)}
    {f26 : Addr} {oc26 kV26 dc26 pm26 cd26 ct26 : Value} {od26 an26 : Option Addr} {sl26 : Array (Option Value)}
    {f27 : Addr} {oc27 kV27 dc27 pm27 cd27 ct27 : Value} {od27 an27 : Option Addr} {sl27 : Array (Option Value)}
    {f28 : Addr} {oc28 kV28 dc28 pm28 cd28 ct28 : Value} {od28 an28 : Option Addr} {sl28 : Array (Option Value)}
    {f29 : Addr} {oc29 kV29 dc29 pm29 cd29 ct29 : Value} {od29 an29 : Option Addr} {sl29 : Array (Option Value)}
    {f30 : Addr} {oc30 kV30 dc30 pm30 cd30 ct30 : Value} {od30 an30 : Option Addr} {sl30 : Array (Option Value)}
    {S : Addr}
    {E0 : Addr}
    {E1 : Addr}
    {E2 : Addr}
    {E3 : Addr}
    {E4 : Addr}
    {E5 : Addr}
    {E6 : Addr}
    {E7 : Addr}
    {E8 : Addr}
    {E9 : Addr}
    {E10 : Addr}
    {E11 : Addr}
    {fI0 : Addr} {nm0 q0 : Str} {N0 : Addr} {bs0 sb0 : List Value} {sn0 : List Str} {ab0 : Bool} {col0 : Option Bool} {dd0 : Option Addr} {m00 m10 m20 m30 m50 : Option Value} {ocI0 kVI0 dcI0 pmI0 cdI0 ctI0 : Value} {odI0 anI0 : Option Addr} {slI0 : Array (Option Value)}
    {fI3 : Addr} {nm3 q3 : Str} {N3 : Addr} {bs3 sb3 : List Value} {sn3 : List Str} {ab3 : Bool} {col3 : Option Bool} {dd3 : Option Addr} {m03 m13 m23 m33 m53 : Option Value} {ocI3 kVI3 dcI3 pmI3 cdI3 ctI3 : Value} {odI3 anI3 : Option Addr} {slI3 : Array (Option Value)}
    {fN cN PN : Addr} {ocN kVN dcN pmN ctN eN : Value} {odN anN ddN : Option Addr} {slN scN : Array (Option Value)} {vsN : Array Value}
    (a0 : PySem.W.nsIn K mainGlobals "is_integer" = some (some (.ref f0)))
    (l0 : K.lookup f0 = some ⟨oc0, od0, .func (PySem.W.fnOf "is_integer" "is_integer" (defArgs sInteger) (defBody sInteger) (defScope sInteger) .none kV0 dc0 pm0 an0 cd0 ct0), sl0⟩)
    (c0 : PySem.W.codeIn K cd0 "is_integer" = true)
    (k0 : PySem.W.keepIn K (.ref f0) = true)
    (a1 : PySem.W.nsIn K mainGlobals "is_tuple_of" = some (some (.ref f1)))
    (l1 : K.lookup f1 = some ⟨oc1, od1, .func (PySem.W.fnOf "is_tuple_of" "is_tuple_of" (defArgs sTupleOf) (defBody sTupleOf) (defScope sTupleOf) .none kV1 dc1 pm1 an1 cd1 ct1), sl1⟩)
    (c1 : PySem.W.codeIn K cd1 "is_tuple_of" = true)
    (k1 : PySem.W.keepIn K (.ref f1) = true)
    (a2 : PySem.W.nsIn K mainGlobals "check_jobs" = some (some (.ref f2)))
    (l2 : K.lookup f2 = some ⟨oc2, od2, .func (PySem.W.fnOf "check_jobs" "check_jobs" (defArgs sCheck) (defBody sCheck) (defScope sCheck) .none kV2 dc2 pm2 an2 cd2 ct2), sl2⟩)
    (c2 : PySem.W.codeIn K cd2 "check_jobs" = true)
    (k2 : PySem.W.keepIn K (.ref f2) = true)
    (a3 : PySem.W.nsIn K mainGlobals "count_arrived" = some (some (.ref f3)))
    (l3 : K.lookup f3 = some ⟨oc3, od3, .func (PySem.W.fnOf "count_arrived" "count_arrived" (defArgs sCount) (defBody sCount) (defScope sCount) .none kV3 dc3 pm3 an3 cd3 ct3), sl3⟩)
    (c3 : PySem.W.codeIn K cd3 "count_arrived" = true)
    (k3 : PySem.W.keepIn K (.ref f3) = true)
    (a4 : PySem.W.nsIn K mainGlobals "has_arrived" = some (some (.ref f4)))
    (l4 : K.lookup f4 = some ⟨oc4, od4, .func (PySem.W.fnOf "has_arrived" "has_arrived" (defArgs sHas) (defBody sHas) (defScope sHas) .none kV4 dc4 pm4 an4 cd4 ct4), sl4⟩)
    (c4 : PySem.W.codeIn K cd4 "has_arrived" = true)
    (k4 : PySem.W.keepIn K (.ref f4) = true)
    (a5 : PySem.W.nsIn K mainGlobals "check_each_job" = some (some (.ref f5)))
    (l5 : K.lookup f5 = some ⟨oc5, od5, .func (PySem.W.fnOf "check_each_job" "check_each_job" (defArgs sEach) (defBody sEach) (defScope sEach) .none kV5 dc5 pm5 an5 cd5 ct5), sl5⟩)
    (c5 : PySem.W.codeIn K cd5 "check_each_job" = true)
    (k5 : PySem.W.keepIn K (.ref f5) = true)
    (a6 : PySem.W.nsIn K mainGlobals "is_job" = some (some (.ref f6)))
    (l6 : K.lookup f6 = some ⟨oc6, od6, .func (PySem.W.fnOf "is_job" "is_job" (defArgs sIsJob) (defBody sIsJob) (defScope sIsJob) .none kV6 dc6 pm6 an6 cd6 ct6), sl6⟩)
    (c6 : PySem.W.codeIn K cd6 "is_job" = true)
    (k6 : PySem.W.keepIn K (.ref f6) = true)
    (a7 : PySem.W.nsIn K mainGlobals "is_arrival" = some (some (.ref f7)))
    (l7 : K.lookup f7 = some ⟨oc7, od7, .func (PySem.W.fnOf "is_arrival" "is_arrival" (defArgs sArrival) (defBody sArrival) (defScope sArrival) .none kV7 dc7 pm7 an7 cd7 ct7), sl7⟩)
    (c7 : PySem.W.codeIn K cd7 "is_arrival" = true)
    (k7 : PySem.W.keepIn K (.ref f7) = true)
    (a8 : PySem.W.nsIn K mainGlobals "waits_forever" = some (some (.ref f8)))
    (l8 : K.lookup f8 = some ⟨oc8, od8, .func (PySem.W.fnOf "waits_forever" "waits_forever" (defArgs sWaits) (defBody sWaits) (defScope sWaits) .none kV8 dc8 pm8 an8 cd8 ct8), sl8⟩)
    (c8 : PySem.W.codeIn K cd8 "waits_forever" = true)
    (k8 : PySem.W.keepIn K (.ref f8) = true)
    (a9 : PySem.W.nsIn K mainGlobals "joined" = some (some (.ref f9)))
    (l9 : K.lookup f9 = some ⟨oc9, od9, .func (PySem.W.fnOf "joined" "joined" (defArgs sJoined) (defBody sJoined) (defScope sJoined) .none kV9 dc9 pm9 an9 cd9 ct9), sl9⟩)
    (c9 : PySem.W.codeIn K cd9 "joined" = true)
    (k9 : PySem.W.keepIn K (.ref f9) = true)
    (a10 : PySem.W.nsIn K mainGlobals "presence" = some (some (.ref f10)))
    (l10 : K.lookup f10 = some ⟨oc10, od10, .func (PySem.W.fnOf "presence" "presence" (defArgs sPresence) (defBody sPresence) (defScope sPresence) .none kV10 dc10 pm10 an10 cd10 ct10), sl10⟩)
    (c10 : PySem.W.codeIn K cd10 "presence" = true)
    (k10 : PySem.W.keepIn K (.ref f10) = true)
    (a11 : PySem.W.nsIn K mainGlobals "check_log" = some (some (.ref f11)))
    (l11 : K.lookup f11 = some ⟨oc11, od11, .func (PySem.W.fnOf "check_log" "check_log" (defArgs sCheckLog) (defBody sCheckLog) (defScope sCheckLog) .none kV11 dc11 pm11 an11 cd11 ct11), sl11⟩)
    (c11 : PySem.W.codeIn K cd11 "check_log" = true)
    (k11 : PySem.W.keepIn K (.ref f11) = true)
    (a12 : PySem.W.nsIn K mainGlobals "check_present" = some (some (.ref f12)))
    (l12 : K.lookup f12 = some ⟨oc12, od12, .func (PySem.W.fnOf "check_present" "check_present" (defArgs sCheckPresent) (defBody sCheckPresent) (defScope sCheckPresent) .none kV12 dc12 pm12 an12 cd12 ct12), sl12⟩)
    (c12 : PySem.W.codeIn K cd12 "check_present" = true)
    (k12 : PySem.W.keepIn K (.ref f12) = true)
    (a13 : PySem.W.nsIn K mainGlobals "present_by" = some (some (.ref f13)))
    (l13 : K.lookup f13 = some ⟨oc13, od13, .func (PySem.W.fnOf "present_by" "present_by" (defArgs sPresentBy) (defBody sPresentBy) (defScope sPresentBy) .none kV13 dc13 pm13 an13 cd13 ct13), sl13⟩)
    (c13 : PySem.W.codeIn K cd13 "present_by" = true)
    (k13 : PySem.W.keepIn K (.ref f13) = true)
    (a14 : PySem.W.nsIn K mainGlobals "count_present" = some (some (.ref f14)))
    (l14 : K.lookup f14 = some ⟨oc14, od14, .func (PySem.W.fnOf "count_present" "count_present" (defArgs sPresent) (defBody sPresent) (defScope sPresent) .none kV14 dc14 pm14 an14 cd14 ct14), sl14⟩)
    (c14 : PySem.W.codeIn K cd14 "count_present" = true)
    (k14 : PySem.W.keepIn K (.ref f14) = true)
    (a15 : PySem.W.nsIn K mainGlobals "_law_mix" = some (some (.ref f15)))
    (l15 : K.lookup f15 = some ⟨oc15, od15, .func (PySem.W.fnOf "_law_mix" "_law_mix" (defArgs sMix) (defBody sMix) (defScope sMix) .none kV15 dc15 pm15 an15 cd15 ct15), sl15⟩)
    (c15 : PySem.W.codeIn K cd15 "_law_mix" = true)
    (k15 : PySem.W.keepIn K (.ref f15) = true)
    (a16 : PySem.W.nsIn K mainGlobals "_law_store" = some (some (.ref f16)))
    (l16 : K.lookup f16 = some ⟨oc16, od16, .func (PySem.W.fnOf "_law_store" "_law_store" (defArgs sStore) (defBody sStore) (defScope sStore) .none kV16 dc16 pm16 an16 cd16 ct16), sl16⟩)
    (c16 : PySem.W.codeIn K cd16 "_law_store" = true)
    (k16 : PySem.W.keepIn K (.ref f16) = true)
    (a17 : PySem.W.nsIn K mainGlobals "_law_pick" = some (some (.ref f17)))
    (l17 : K.lookup f17 = some ⟨oc17, od17, .func (PySem.W.fnOf "_law_pick" "_law_pick" (defArgs sPick) (defBody sPick) (defScope sPick) .none kV17 dc17 pm17 an17 cd17 ct17), sl17⟩)
    (c17 : PySem.W.codeIn K cd17 "_law_pick" = true)
    (k17 : PySem.W.keepIn K (.ref f17) = true)
    (a18 : PySem.W.nsIn K mainGlobals "_law_names" = some (some (.ref f18)))
    (l18 : K.lookup f18 = some ⟨oc18, od18, .func (PySem.W.fnOf "_law_names" "_law_names" (defArgs sNames) (defBody sNames) (defScope sNames) .none kV18 dc18 pm18 an18 cd18 ct18), sl18⟩)
    (c18 : PySem.W.codeIn K cd18 "_law_names" = true)
    (k18 : PySem.W.keepIn K (.ref f18) = true)
    (a19 : PySem.W.nsIn K mainGlobals "_law_before" = some (some (.ref f19)))
    (l19 : K.lookup f19 = some ⟨oc19, od19, .func (PySem.W.fnOf "_law_before" "_law_before" (defArgs sBefore) (defBody sBefore) (defScope sBefore) .none kV19 dc19 pm19 an19 cd19 ct19), sl19⟩)
    (c19 : PySem.W.codeIn K cd19 "_law_before" = true)
    (k19 : PySem.W.keepIn K (.ref f19) = true)
    (a20 : PySem.W.nsIn K mainGlobals "_law_jobs" = some (some (.ref f20)))
    (l20 : K.lookup f20 = some ⟨oc20, od20, .func (PySem.W.fnOf "_law_jobs" "_law_jobs" (defArgs sJobs) (defBody sJobs) (defScope sJobs) .none kV20 dc20 pm20 an20 cd20 ct20), sl20⟩)
    (c20 : PySem.W.codeIn K cd20 "_law_jobs" = true)
    (k20 : PySem.W.keepIn K (.ref f20) = true)
    (a21 : PySem.W.nsIn K mainGlobals "_law_is_int" = some (some (.ref f21)))
    (l21 : K.lookup f21 = some ⟨oc21, od21, .func (PySem.W.fnOf "_law_is_int" "_law_is_int" (defArgs sInt) (defBody sInt) (defScope sInt) .none kV21 dc21 pm21 an21 cd21 ct21), sl21⟩)
    (c21 : PySem.W.codeIn K cd21 "_law_is_int" = true)
    (k21 : PySem.W.keepIn K (.ref f21) = true)
    (a22 : PySem.W.nsIn K mainGlobals "_law_kind" = some (some (.ref f22)))
    (l22 : K.lookup f22 = some ⟨oc22, od22, .func (PySem.W.fnOf "_law_kind" "_law_kind" (defArgs sKind) (defBody sKind) (defScope sKind) .none kV22 dc22 pm22 an22 cd22 ct22), sl22⟩)
    (c22 : PySem.W.codeIn K cd22 "_law_kind" = true)
    (k22 : PySem.W.keepIn K (.ref f22) = true)
    (a23 : PySem.W.nsIn K mainGlobals "_law_present" = some (some (.ref f23)))
    (l23 : K.lookup f23 = some ⟨oc23, od23, .func (PySem.W.fnOf "_law_present" "_law_present" (defArgs sPresentL) (defBody sPresentL) (defScope sPresentL) .none kV23 dc23 pm23 an23 cd23 ct23), sl23⟩)
    (c23 : PySem.W.codeIn K cd23 "_law_present" = true)
    (k23 : PySem.W.keepIn K (.ref f23) = true)
    (a24 : PySem.W.nsIn K mainGlobals "_law_log" = some (some (.ref f24)))
    (l24 : K.lookup f24 = some ⟨oc24, od24, .func (PySem.W.fnOf "_law_log" "_law_log" (defArgs sLog) (defBody sLog) (defScope sLog) .none kV24 dc24 pm24 an24 cd24 ct24), sl24⟩)
    (c24 : PySem.W.codeIn K cd24 "_law_log" = true)
    (k24 : PySem.W.keepIn K (.ref f24) = true)
    (a25 : PySem.W.nsIn K mainGlobals "_law_log_fault" = some (some (.ref f25)))
    (l25 : K.lookup f25 = some ⟨oc25, od25, .func (PySem.W.fnOf "_law_log_fault" "_law_log_fault" (defArgs sLogFault) (defBody sLogFault) (defScope sLogFault) .none kV25 dc25 pm25 an25 cd25 ct25), sl25⟩)
    (c25 : PySem.W.codeIn K cd25 "_law_log_fault" = true)
    (k25 : PySem.W.keepIn K (.ref f25) = true)
    (a26 : PySem.W.nsIn K mainGlobals "_law_bad_log" = some (some (.ref f26)))
    (l26 : K.lookup f26 = some ⟨oc26, od26, .func (PySem.W.fnOf "_law_bad_log" "_law_bad_log" (defArgs sBadLog) (defBody sBadLog) (defScope sBadLog) .none kV26 dc26 pm26 an26 cd26 ct26), sl26⟩)
    (c26 : PySem.W.codeIn K cd26 "_law_bad_log" = true)
    (k26 : PySem.W.keepIn K (.ref f26) = true)
    (a27 : PySem.W.nsIn K mainGlobals "_law_due" = some (some (.ref f27)))
    (l27 : K.lookup f27 = some ⟨oc27, od27, .func (PySem.W.fnOf "_law_due" "_law_due" (defArgs sDue) (defBody sDue) (defScope sDue) .none kV27 dc27 pm27 an27 cd27 ct27), sl27⟩)
    (c27 : PySem.W.codeIn K cd27 "_law_due" = true)
    (k27 : PySem.W.keepIn K (.ref f27) = true)
    (a28 : PySem.W.nsIn K mainGlobals "_law_right" = some (some (.ref f28)))
    (l28 : K.lookup f28 = some ⟨oc28, od28, .func (PySem.W.fnOf "_law_right" "_law_right" (defArgs sRight) (defBody sRight) (defScope sRight) .none kV28 dc28 pm28 an28 cd28 ct28), sl28⟩)
    (c28 : PySem.W.codeIn K cd28 "_law_right" = true)
    (k28 : PySem.W.keepIn K (.ref f28) = true)
    (a29 : PySem.W.nsIn K mainGlobals "_law_later_right" = some (some (.ref f29)))
    (l29 : K.lookup f29 = some ⟨oc29, od29, .func (PySem.W.fnOf "_law_later_right" "_law_later_right" (defArgs sLaterRight) (defBody sLaterRight) (defScope sLaterRight) .none kV29 dc29 pm29 an29 cd29 ct29), sl29⟩)
    (c29 : PySem.W.codeIn K cd29 "_law_later_right" = true)
    (k29 : PySem.W.keepIn K (.ref f29) = true)
    (a30 : PySem.W.nsIn K mainGlobals "law" = some (some (.ref f30)))
    (l30 : K.lookup f30 = some ⟨oc30, od30, .func (PySem.W.fnOf "law" "law" (defArgs sLaw) (defBody sLaw) (defScope sLaw) .none kV30 dc30 pm30 an30 cd30 ct30), sl30⟩)
    (c30 : PySem.W.codeIn K cd30 "law" = true)
    (k30 : PySem.W.keepIn K (.ref f30) = true)
    (z_len : PySem.W.nsIn K mainGlobals "len" = some none)
    (z_isinstance : PySem.W.nsIn K mainGlobals "isinstance" = some none)
    (z_int : PySem.W.nsIn K mainGlobals "int" = some none)
    (z_bool : PySem.W.nsIn K mainGlobals "bool" = some none)
    (z_tuple : PySem.W.nsIn K mainGlobals "tuple" = some none)
    (z_str : PySem.W.nsIn K mainGlobals "str" = some none)
    (z_range : PySem.W.nsIn K mainGlobals "range" = some none)
    (z_enumerate : PySem.W.nsIn K mainGlobals "enumerate" = some none)
    (z_list : PySem.W.nsIn K mainGlobals "list" = some none)
    (z_all : PySem.W.nsIn K mainGlobals "all" = some none)
    (z_min : PySem.W.nsIn K mainGlobals "min" = some none)
    (z_set : PySem.W.nsIn K mainGlobals "set" = some none)
    (z_sorted : PySem.W.nsIn K mainGlobals "sorted" = some none)
    (z_zip : PySem.W.nsIn K mainGlobals "zip" = some none)
    (z_sum : PySem.W.nsIn K mainGlobals "sum" = some none)
    (aS : PySem.W.nsIn K mainGlobals "SlotError" = some (some (.ref S)))
    (iS : PySem.W.isClsIn K S = true)
    (hS : PySem.W.hasDictIn K S = true)
    (tS : PySem.W.typeIn K (.ref S) = some (.type "type"))
    (eS : PySem.W.subIn K (.ref S) (.type "BaseException") = some true)
    (spG : PySem.W.specialIn K (.builtin "object.__class__") "__get__" = some (some (.builtin "getset_descriptor.__get__")))
    (tkG : PySem.W.takesIn K (.builtin "object.__class__") = some true)
    (zVE : PySem.W.nsIn K mainGlobals "ValueError" = some none)
    (aE0 : PySem.W.nsIn K mainGlobals "NoJobs" = some (some (.ref E0)))
    (iE0 : PySem.W.isClsIn K E0 = true)
    (tE0 : PySem.W.typeIn K (.ref E0) = some (.type "type"))
    (aE1 : PySem.W.nsIn K mainGlobals "NoRule" = some (some (.ref E1)))
    (iE1 : PySem.W.isClsIn K E1 = true)
    (tE1 : PySem.W.typeIn K (.ref E1) = some (.type "type"))
    (aE2 : PySem.W.nsIn K mainGlobals "NoLengths" = some (some (.ref E2)))
    (iE2 : PySem.W.isClsIn K E2 = true)
    (tE2 : PySem.W.typeIn K (.ref E2) = some (.type "type"))
    (aE3 : PySem.W.nsIn K mainGlobals "NoLog" = some (some (.ref E3)))
    (iE3 : PySem.W.isClsIn K E3 = true)
    (tE3 : PySem.W.typeIn K (.ref E3) = some (.type "type"))
    (aE4 : PySem.W.nsIn K mainGlobals "NoMarks" = some (some (.ref E4)))
    (iE4 : PySem.W.isClsIn K E4 = true)
    (tE4 : PySem.W.typeIn K (.ref E4) = some (.type "type"))
    (aE5 : PySem.W.nsIn K mainGlobals "NoNamed" = some (some (.ref E5)))
    (iE5 : PySem.W.isClsIn K E5 = true)
    (tE5 : PySem.W.typeIn K (.ref E5) = some (.type "type"))
    (aE6 : PySem.W.nsIn K mainGlobals "NoOrder" = some (some (.ref E6)))
    (iE6 : PySem.W.isClsIn K E6 = true)
    (tE6 : PySem.W.typeIn K (.ref E6) = some (.type "type"))
    (aE7 : PySem.W.nsIn K mainGlobals "NoText" = some (some (.ref E7)))
    (iE7 : PySem.W.isClsIn K E7 = true)
    (tE7 : PySem.W.typeIn K (.ref E7) = some (.type "type"))
    (aE8 : PySem.W.nsIn K mainGlobals "NoNumber" = some (some (.ref E8)))
    (iE8 : PySem.W.isClsIn K E8 = true)
    (tE8 : PySem.W.typeIn K (.ref E8) = some (.type "type"))
    (aE9 : PySem.W.nsIn K mainGlobals "NoName" = some (some (.ref E9)))
    (iE9 : PySem.W.isClsIn K E9 = true)
    (tE9 : PySem.W.typeIn K (.ref E9) = some (.type "type"))
    (aE10 : PySem.W.nsIn K mainGlobals "NoUndo" = some (some (.ref E10)))
    (iE10 : PySem.W.isClsIn K E10 = true)
    (tE10 : PySem.W.typeIn K (.ref E10) = some (.type "type"))
    (aE11 : PySem.W.nsIn K mainGlobals "NoLine" = some (some (.ref E11)))
    (iE11 : PySem.W.isClsIn K E11 = true)
    (tE11 : PySem.W.typeIn K (.ref E11) = some (.type "type"))
    (x0_ : K.lookup E0 = some (excClassObj nm0 q0 E0 N0 bs0 [.ref S, .type "ValueError", .type "Exception", .type "BaseException", .type "object"] true sn0 sb0 ab0 col0 dd0 m00 m10 m20 m30 m50 "ValueError.__new__"))
    (sa0 : PySem.W.findIn K (.ref E0) "__setattr__" = some (some (.builtin "object.__setattr__")))
    (ga0 : PySem.W.findIn K (.ref E0) "__getattribute__" = some (some (.builtin "BaseException.__getattribute__")))
    (gg0 : PySem.W.findIn K (.ref E0) "__getattr__" = some none)
    (np0 : PySem.W.findIn K (.ref E0) "place" = some none)
    (in0 : PySem.W.findIn K (.ref E0) "__init__" = some (some (.ref fI0)))
    (ti0 : PySem.W.typeIn K (.ref fI0) = some (.type "function"))
    (li0 : K.lookup fI0 = some ⟨ocI0, odI0, .func (PySem.W.fnOf "__init__" "NoJobs.__init__" (defArgs sJobsInit) (defBody sJobsInit) (defScope sJobsInit) .none kVI0 dcI0 pmI0 anI0 cdI0 ctI0), slI0⟩)
    (ci0 : PySem.W.codeIn K cdI0 "NoJobs.__init__" = true)
    (ki0 : PySem.W.keepIn K (.ref fI0) = true)
    (kc0 : PySem.W.keepIn K (.ref E0) = true)
    (ec0 : PySem.W.subIn K (.ref E0) (.type "BaseException") = some true)
    (hc0 : PySem.W.hasDictIn K E0 = true)
    (cc0 : PySem.W.findIn K (.ref E0) "__class__" = some (some (.builtin "object.__class__")))
    (mc0 : PySem.W.mroIn K E0 (.type "object") = some true)
    (vc0 : PySem.W.subIn K (.ref E0) (.type "ValueError") = some true)
    (sc0 : PySem.W.subIn K (.ref E0) (.ref S) = some true)
    (s0_1 : PySem.W.subIn K (.ref E0) (.ref E1) = some false)
    (n0_1 : (Value.ref E0 == Value.ref E1) = false)
    (s0_2 : PySem.W.subIn K (.ref E0) (.ref E2) = some false)
    (n0_2 : (Value.ref E0 == Value.ref E2) = false)
    (s0_3 : PySem.W.subIn K (.ref E0) (.ref E3) = some false)
    (n0_3 : (Value.ref E0 == Value.ref E3) = false)
    (s0_4 : PySem.W.subIn K (.ref E0) (.ref E4) = some false)
    (n0_4 : (Value.ref E0 == Value.ref E4) = false)
    (s0_5 : PySem.W.subIn K (.ref E0) (.ref E5) = some false)
    (n0_5 : (Value.ref E0 == Value.ref E5) = false)
    (s0_6 : PySem.W.subIn K (.ref E0) (.ref E6) = some false)
    (n0_6 : (Value.ref E0 == Value.ref E6) = false)
    (s0_7 : PySem.W.subIn K (.ref E0) (.ref E7) = some false)
    (n0_7 : (Value.ref E0 == Value.ref E7) = false)
    (s0_8 : PySem.W.subIn K (.ref E0) (.ref E8) = some false)
    (n0_8 : (Value.ref E0 == Value.ref E8) = false)
    (s0_9 : PySem.W.subIn K (.ref E0) (.ref E9) = some false)
    (n0_9 : (Value.ref E0 == Value.ref E9) = false)
    (s0_10 : PySem.W.subIn K (.ref E0) (.ref E10) = some false)
    (n0_10 : (Value.ref E0 == Value.ref E10) = false)
    (s0_11 : PySem.W.subIn K (.ref E0) (.ref E11) = some false)
    (n0_11 : (Value.ref E0 == Value.ref E11) = false)
    (x3_ : K.lookup E3 = some (excClassObj nm3 q3 E3 N3 bs3 [.ref S, .type "ValueError", .type "Exception", .type "BaseException", .type "object"] true sn3 sb3 ab3 col3 dd3 m03 m13 m23 m33 m53 "ValueError.__new__"))
    (sa3 : PySem.W.findIn K (.ref E3) "__setattr__" = some (some (.builtin "object.__setattr__")))
    (ga3 : PySem.W.findIn K (.ref E3) "__getattribute__" = some (some (.builtin "BaseException.__getattribute__")))
    (gg3 : PySem.W.findIn K (.ref E3) "__getattr__" = some none)
    (np3 : PySem.W.findIn K (.ref E3) "place" = some none)
    (in3 : PySem.W.findIn K (.ref E3) "__init__" = some (some (.ref fI3)))
    (ti3 : PySem.W.typeIn K (.ref fI3) = some (.type "function"))
    (li3 : K.lookup fI3 = some ⟨ocI3, odI3, .func (PySem.W.fnOf "__init__" "NoLog.__init__" (defArgs sLogInit) (defBody sLogInit) (defScope sLogInit) .none kVI3 dcI3 pmI3 anI3 cdI3 ctI3), slI3⟩)
    (ci3 : PySem.W.codeIn K cdI3 "NoLog.__init__" = true)
    (ki3 : PySem.W.keepIn K (.ref fI3) = true)
    (kc3 : PySem.W.keepIn K (.ref E3) = true)
    (ec3 : PySem.W.subIn K (.ref E3) (.type "BaseException") = some true)
    (hc3 : PySem.W.hasDictIn K E3 = true)
    (cc3 : PySem.W.findIn K (.ref E3) "__class__" = some (some (.builtin "object.__class__")))
    (mc3 : PySem.W.mroIn K E3 (.type "object") = some true)
    (vc3 : PySem.W.subIn K (.ref E3) (.type "ValueError") = some true)
    (sc3 : PySem.W.subIn K (.ref E3) (.ref S) = some true)
    (s3_0 : PySem.W.subIn K (.ref E3) (.ref E0) = some false)
    (n3_0 : (Value.ref E3 == Value.ref E0) = false)
    (s3_1 : PySem.W.subIn K (.ref E3) (.ref E1) = some false)
    (n3_1 : (Value.ref E3 == Value.ref E1) = false)
    (s3_2 : PySem.W.subIn K (.ref E3) (.ref E2) = some false)
    (n3_2 : (Value.ref E3 == Value.ref E2) = false)
    (s3_4 : PySem.W.subIn K (.ref E3) (.ref E4) = some false)
    (n3_4 : (Value.ref E3 == Value.ref E4) = false)
    (s3_5 : PySem.W.subIn K (.ref E3) (.ref E5) = some false)
    (n3_5 : (Value.ref E3 == Value.ref E5) = false)
    (s3_6 : PySem.W.subIn K (.ref E3) (.ref E6) = some false)
    (n3_6 : (Value.ref E3 == Value.ref E6) = false)
    (s3_7 : PySem.W.subIn K (.ref E3) (.ref E7) = some false)
    (n3_7 : (Value.ref E3 == Value.ref E7) = false)
    (s3_8 : PySem.W.subIn K (.ref E3) (.ref E8) = some false)
    (n3_8 : (Value.ref E3 == Value.ref E8) = false)
    (s3_9 : PySem.W.subIn K (.ref E3) (.ref E9) = some false)
    (n3_9 : (Value.ref E3 == Value.ref E9) = false)
    (s3_10 : PySem.W.subIn K (.ref E3) (.ref E10) = some false)
    (n3_10 : (Value.ref E3 == Value.ref E10) = false)
    (s3_11 : PySem.W.subIn K (.ref E3) (.ref E11) = some false)
    (n3_11 : (Value.ref E3 == Value.ref E11) = false)
    (aN : PySem.W.nsIn K mainGlobals "is_name" = some (some (.ref fN)))
    (lN : K.lookup fN = some ⟨ocN, odN, .func (PySem.W.fnOf "is_name" "is_name" (defArgs sName) (defBody sName) (defScope sName) .none kVN dcN pmN anN (.ref cN) ctN), slN⟩)
    (cNf : PySem.W.codeIn K (.ref cN) "is_name" = true)
    (kNf : PySem.W.keepIn K (.ref fN) = true)
    (hcN : K.lookup cN = some ⟨eN, ddN, .fields vsN, scN⟩)
    (hvN : (vsN[11]? : Option Value) = some (.ref PN))
    (nPN : K.lookup PN = none)
    : LawTab l w K mg fa := by
  have D0 : Df K mg "is_integer" sInteger ["value", "least"] := by
    have F := fun_mk (st := sInteger) l0 c0 k0
    exact ⟨_, _, PySem.W.mg_of X G a0, F, F.binds (ps := ["value", "least"]) fun _ _ _ _ _ _ us hl => match us, hl with | [_, _], _ => rfl⟩
  have D1 : Df K mg "is_tuple_of" sTupleOf ["value", "many"] := by
    have F := fun_mk (st := sTupleOf) l1 c1 k1
    exact ⟨_, _, PySem.W.mg_of X G a1, F, F.binds (ps := ["value", "many"]) fun _ _ _ _ _ _ us hl => match us, hl with | [_, _], _ => rfl⟩
  have D2 : Df K mg "check_jobs" sCheck ["jobs"] := by
    have F := fun_mk (st := sCheck) l2 c2 k2
    exact ⟨_, _, PySem.W.mg_of X G a2, F, F.binds (ps := ["jobs"]) fun _ _ _ _ _ _ us hl => match us, hl with | [_], _ => rfl⟩
  have D3 : Df K mg "count_arrived" sCount ["jobs", "moment", "finished"] := by
    have F := fun_mk (st := sCount) l3 c3 k3
    exact ⟨_, _, PySem.W.mg_of X G a3, F, F.binds (ps := ["jobs", "moment", "finished"]) fun _ _ _ _ _ _ us hl => match us, hl with | [_, _, _], _ => rfl⟩
  have D4 : Df K mg "has_arrived" sHas ["job", "moment", "finished"] := by
    have F := fun_mk (st := sHas) l4 c4 k4
    exact ⟨_, _, PySem.W.mg_of X G a4, F, F.binds (ps := ["job", "moment", "finished"]) fun _ _ _ _ _ _ us hl => match us, hl with | [_, _, _], _ => rfl⟩
  have D5 : Df K mg "check_each_job" sEach ["jobs"] := by
    have F := fun_mk (st := sEach) l5 c5 k5
    exact ⟨_, _, PySem.W.mg_of X G a5, F, F.binds (ps := ["jobs"]) fun _ _ _ _ _ _ us hl => match us, hl with | [_], _ => rfl⟩
  have D6 : Df K mg "is_job" sIsJob ["job"] := by
    have F := fun_mk (st := sIsJob) l6 c6 k6
    exact ⟨_, _, PySem.W.mg_of X G a6, F, F.binds (ps := ["job"]) fun _ _ _ _ _ _ us hl => match us, hl with | [_], _ => rfl⟩
  have D7 : Df K mg "is_arrival" sArrival ["arrival"] := by
    have F := fun_mk (st := sArrival) l7 c7 k7
    exact ⟨_, _, PySem.W.mg_of X G a7, F, F.binds (ps := ["arrival"]) fun _ _ _ _ _ _ us hl => match us, hl with | [_], _ => rfl⟩
  have D8 : Df K mg "waits_forever" sWaits ["job", "jobs"] := by
    have F := fun_mk (st := sWaits) l8 c8 k8
    exact ⟨_, _, PySem.W.mg_of X G a8, F, F.binds (ps := ["job", "jobs"]) fun _ _ _ _ _ _ us hl => match us, hl with | [_, _], _ => rfl⟩
  have D9 : Df K mg "joined" sJoined ["pieces"] := by
    have F := fun_mk (st := sJoined) l9 c9 k9
    exact ⟨_, _, PySem.W.mg_of X G a9, F, F.binds (ps := ["pieces"]) fun _ _ _ _ _ _ us hl => match us, hl with | [_], _ => rfl⟩
  have D10 : Df K mg "presence" sPresence ["jobs", "log"] := by
    have F := fun_mk (st := sPresence) l10 c10 k10
    exact ⟨_, _, PySem.W.mg_of X G a10, F, F.binds (ps := ["jobs", "log"]) fun _ _ _ _ _ _ us hl => match us, hl with | [_, _], _ => rfl⟩
  have D11 : Df K mg "check_log" sCheckLog ["log"] := by
    have F := fun_mk (st := sCheckLog) l11 c11 k11
    exact ⟨_, _, PySem.W.mg_of X G a11, F, F.binds (ps := ["log"]) fun _ _ _ _ _ _ us hl => match us, hl with | [_], _ => rfl⟩
  have D12 : Df K mg "check_present" sCheckPresent ["jobs", "log"] := by
    have F := fun_mk (st := sCheckPresent) l12 c12 k12
    exact ⟨_, _, PySem.W.mg_of X G a12, F, F.binds (ps := ["jobs", "log"]) fun _ _ _ _ _ _ us hl => match us, hl with | [_, _], _ => rfl⟩
  have D13 : Df K mg "present_by" sPresentBy ["jobs", "log", "moment"] := by
    have F := fun_mk (st := sPresentBy) l13 c13 k13
    exact ⟨_, _, PySem.W.mg_of X G a13, F, F.binds (ps := ["jobs", "log", "moment"]) fun _ _ _ _ _ _ us hl => match us, hl with | [_, _, _], _ => rfl⟩
  have D14 : Df K mg "count_present" sPresent ["jobs", "moment", "finished"] := by
    have F := fun_mk (st := sPresent) l14 c14 k14
    exact ⟨_, _, PySem.W.mg_of X G a14, F, F.binds (ps := ["jobs", "moment", "finished"]) fun _ _ _ _ _ _ us hl => match us, hl with | [_, _, _], _ => rfl⟩
  have D15 : Df K mg "_law_mix" sMix ["number", "turn"] := by
    have F := fun_mk (st := sMix) l15 c15 k15
    exact ⟨_, _, PySem.W.mg_of X G a15, F, F.binds (ps := ["number", "turn"]) fun _ _ _ _ _ _ us hl => match us, hl with | [_, _], _ => rfl⟩
  have D16 : Df K mg "_law_store" sStore ["script"] := by
    have F := fun_mk (st := sStore) l16 c16 k16
    exact ⟨_, _, PySem.W.mg_of X G a16, F, F.binds (ps := ["script"]) fun _ _ _ _ _ _ us hl => match us, hl with | [_], _ => rfl⟩
  have D17 : Df K mg "_law_pick" sPick ["store", "count"] := by
    have F := fun_mk (st := sPick) l17 c17 k17
    exact ⟨_, _, PySem.W.mg_of X G a17, F, F.binds (ps := ["store", "count"]) fun _ _ _ _ _ _ us hl => match us, hl with | [_, _], _ => rfl⟩
  have D18 : Df K mg "_law_names" sNames ["store", "count"] := by
    have F := fun_mk (st := sNames) l18 c18 k18
    exact ⟨_, _, PySem.W.mg_of X G a18, F, F.binds (ps := ["store", "count"]) fun _ _ _ _ _ _ us hl => match us, hl with | [_, _], _ => rfl⟩
  have D19 : Df K mg "_law_before" sBefore ["arrival", "finishes"] := by
    have F := fun_mk (st := sBefore) l19 c19 k19
    exact ⟨_, _, PySem.W.mg_of X G a19, F, F.binds (ps := ["arrival", "finishes"]) fun _ _ _ _ _ _ us hl => match us, hl with | [_, _], _ => rfl⟩
  have D20 : Df K mg "_law_jobs" sJobs ["store", "most", "late"] := by
    have F := fun_mk (st := sJobs) l20 c20 k20
    exact ⟨_, _, PySem.W.mg_of X G a20, F, F.binds (ps := ["store", "most", "late"]) fun _ _ _ _ _ _ us hl => match us, hl with | [_, _, _], _ => rfl⟩
  have D21 : Df K mg "_law_is_int" sInt ["value", "least"] := by
    have F := fun_mk (st := sInt) l21 c21 k21
    exact ⟨_, _, PySem.W.mg_of X G a21, F, F.binds (ps := ["value", "least"]) fun _ _ _ _ _ _ us hl => match us, hl with | [_, _], _ => rfl⟩
  have D22 : Df K mg "_law_kind" sKind ["caught"] := by
    have F := fun_mk (st := sKind) l22 c22 k22
    exact ⟨_, _, PySem.W.mg_of X G a22, F, F.binds (ps := ["caught"]) fun _ _ _ _ _ _ us hl => match us, hl with | [_], _ => rfl⟩
  have D23 : Df K mg "_law_present" sPresentL ["jobs", "unit", "finished"] := by
    have F := fun_mk (st := sPresentL) l23 c23 k23
    exact ⟨_, _, PySem.W.mg_of X G a23, F, F.binds (ps := ["jobs", "unit", "finished"]) fun _ _ _ _ _ _ us hl => match us, hl with | [_, _, _], _ => rfl⟩
  have D24 : Df K mg "_law_log" sLog ["store", "jobs", "cores", "wide"] := by
    have F := fun_mk (st := sLog) l24 c24 k24
    exact ⟨_, _, PySem.W.mg_of X G a24, F, F.binds (ps := ["store", "jobs", "cores", "wide"]) fun _ _ _ _ _ _ us hl => match us, hl with | [_, _, _, _], _ => rfl⟩
  have D25 : Df K mg "_law_log_fault" sLogFault ["log"] := by
    have F := fun_mk (st := sLogFault) l25 c25 k25
    exact ⟨_, _, PySem.W.mg_of X G a25, F, F.binds (ps := ["log"]) fun _ _ _ _ _ _ us hl => match us, hl with | [_], _ => rfl⟩
  have D26 : Df K mg "_law_bad_log" sBadLog ["store", "log"] := by
    have F := fun_mk (st := sBadLog) l26 c26 k26
    exact ⟨_, _, PySem.W.mg_of X G a26, F, F.binds (ps := ["store", "log"]) fun _ _ _ _ _ _ us hl => match us, hl with | [_, _], _ => rfl⟩
  have D27 : Df K mg "_law_due" sDue ["jobs", "log"] := by
    have F := fun_mk (st := sDue) l27 c27 k27
    exact ⟨_, _, PySem.W.mg_of X G a27, F, F.binds (ps := ["jobs", "log"]) fun _ _ _ _ _ _ us hl => match us, hl with | [_, _], _ => rfl⟩
  have D28 : Df K mg "_law_right" sRight ["jobs", "log"] := by
    have F := fun_mk (st := sRight) l28 c28 k28
    exact ⟨_, _, PySem.W.mg_of X G a28, F, F.binds (ps := ["jobs", "log"]) fun _ _ _ _ _ _ us hl => match us, hl with | [_, _], _ => rfl⟩
  have D29 : Df K mg "_law_later_right" sLaterRight ["jobs", "log"] := by
    have F := fun_mk (st := sLaterRight) l29 c29 k29
    exact ⟨_, _, PySem.W.mg_of X G a29, F, F.binds (ps := ["jobs", "log"]) fun _ _ _ _ _ _ us hl => match us, hl with | [_, _], _ => rfl⟩
  have D30 : Df K mg "law" sLaw ["script"] := by
    have F := fun_mk (st := sLaw) l30 c30 k30
    exact ⟨_, _, PySem.W.mg_of X G a30, F, F.binds (ps := ["script"]) fun _ _ _ _ _ _ us hl => match us, hl with | [_], _ => rfl⟩
  have oex0 : OexC K E0 := ⟨⟨_, _, _, _, _, _, _, _, _, _, _, _, _, _, _, x0_, rfl⟩, sa0, ec0, tE0, kc0⟩
  have exc0 : ExcC K E0 := ⟨ga0, gg0, ec0, hc0, cc0, spG, tkG, mc0⟩
  have xfc0 : XfC K E0 := ⟨ga0, gg0, ec0, hc0⟩
  have nit0 : Nit K "NoJobs" "NoJobs.__init__" "place" sJobsInit E0 := by
    have F : Fun K "__init__" "NoJobs.__init__" sJobsInit fI0 _ := fun_mk (st := sJobsInit) li0 ci0 ki0
    exact ⟨_, _, in0, ti0, F, F.binds (ps := ["self", "place"]) fun _ _ _ _ _ _ us hl => match us, hl with | [_, _], _ => rfl⟩
  have kn0 : Kn K mg E0 0 := ⟨exc0, xfc0, np0, PySem.W.mg_none_of X G zVE, kit_ve vc0, ⟨S, PySem.W.mg_of X G aS, kit_sub iS tS sc0, PySem.W.exm_ref eS hS tS sc0⟩,
    ⟨_, PySem.W.mg_of X G aE0, by rw [kit_same]; rfl⟩,
    ⟨_, PySem.W.mg_of X G aE1, by rw [kit_ref n0_1 iE1 tE1 s0_1]; rfl⟩,
    ⟨_, PySem.W.mg_of X G aE2, by rw [kit_ref n0_2 iE2 tE2 s0_2]; rfl⟩,
    ⟨_, PySem.W.mg_of X G aE3, by rw [kit_ref n0_3 iE3 tE3 s0_3]; rfl⟩,
    ⟨_, PySem.W.mg_of X G aE4, by rw [kit_ref n0_4 iE4 tE4 s0_4]; rfl⟩,
    ⟨_, PySem.W.mg_of X G aE5, by rw [kit_ref n0_5 iE5 tE5 s0_5]; rfl⟩,
    ⟨_, PySem.W.mg_of X G aE6, by rw [kit_ref n0_6 iE6 tE6 s0_6]; rfl⟩,
    ⟨_, PySem.W.mg_of X G aE7, by rw [kit_ref n0_7 iE7 tE7 s0_7]; rfl⟩,
    ⟨_, PySem.W.mg_of X G aE8, by rw [kit_ref n0_8 iE8 tE8 s0_8]; rfl⟩,
    ⟨_, PySem.W.mg_of X G aE9, by rw [kit_ref n0_9 iE9 tE9 s0_9]; rfl⟩,
    ⟨_, PySem.W.mg_of X G aE10, by rw [kit_ref n0_10 iE10 tE10 s0_10]; rfl⟩,
    ⟨_, PySem.W.mg_of X G aE11, by rw [kit_ref n0_11 iE11 tE11 s0_11]; rfl⟩⟩
  have oex3 : OexC K E3 := ⟨⟨_, _, _, _, _, _, _, _, _, _, _, _, _, _, _, x3_, rfl⟩, sa3, ec3, tE3, kc3⟩
  have exc3 : ExcC K E3 := ⟨ga3, gg3, ec3, hc3, cc3, spG, tkG, mc3⟩
  have xfc3 : XfC K E3 := ⟨ga3, gg3, ec3, hc3⟩
  have nit3 : Nit K "NoLog" "NoLog.__init__" "place" sLogInit E3 := by
    have F : Fun K "__init__" "NoLog.__init__" sLogInit fI3 _ := fun_mk (st := sLogInit) li3 ci3 ki3
    exact ⟨_, _, in3, ti3, F, F.binds (ps := ["self", "place"]) fun _ _ _ _ _ _ us hl => match us, hl with | [_, _], _ => rfl⟩
  have kn3 : Kn K mg E3 3 := ⟨exc3, xfc3, np3, PySem.W.mg_none_of X G zVE, kit_ve vc3, ⟨S, PySem.W.mg_of X G aS, kit_sub iS tS sc3, PySem.W.exm_ref eS hS tS sc3⟩,
    ⟨_, PySem.W.mg_of X G aE0, by rw [kit_ref n3_0 iE0 tE0 s3_0]; rfl⟩,
    ⟨_, PySem.W.mg_of X G aE1, by rw [kit_ref n3_1 iE1 tE1 s3_1]; rfl⟩,
    ⟨_, PySem.W.mg_of X G aE2, by rw [kit_ref n3_2 iE2 tE2 s3_2]; rfl⟩,
    ⟨_, PySem.W.mg_of X G aE3, by rw [kit_same]; rfl⟩,
    ⟨_, PySem.W.mg_of X G aE4, by rw [kit_ref n3_4 iE4 tE4 s3_4]; rfl⟩,
    ⟨_, PySem.W.mg_of X G aE5, by rw [kit_ref n3_5 iE5 tE5 s3_5]; rfl⟩,
    ⟨_, PySem.W.mg_of X G aE6, by rw [kit_ref n3_6 iE6 tE6 s3_6]; rfl⟩,
    ⟨_, PySem.W.mg_of X G aE7, by rw [kit_ref n3_7 iE7 tE7 s3_7]; rfl⟩,
    ⟨_, PySem.W.mg_of X G aE8, by rw [kit_ref n3_8 iE8 tE8 s3_8]; rfl⟩,
    ⟨_, PySem.W.mg_of X G aE9, by rw [kit_ref n3_9 iE9 tE9 s3_9]; rfl⟩,
    ⟨_, PySem.W.mg_of X G aE10, by rw [kit_ref n3_10 iE10 tE10 s3_10]; rfl⟩,
    ⟨_, PySem.W.mg_of X G aE11, by rw [kit_ref n3_11 iE11 tE11 s3_11]; rfl⟩⟩
  have DN : DfC K mg "is_name" sName ["value"] cN := by
    have F : Fun K "is_name" "is_name" sName fN _ := fun_mk (st := sName) lN cNf kNf
    exact ⟨fN, ocN, odN, kVN, dcN, pmN, anN, ctN, slN, PySem.W.mg_of X G aN, lN, cNf, kNf, F.binds (ps := ["value"]) fun _ _ _ _ _ _ us hl => match us, hl with | [_], _ => rfl⟩
  have tN : PySem.W.tabIn K "is_name" = some (cN, PN) := by
    unfold PySem.W.tabIn
    rw [aN]
    dsimp only
    rw [lN]
    dsimp only [PySem.W.fnOf]
    rw [hcN]
    dsimp only
    rw [hvN]
  have B : Blt mg := ⟨PySem.W.mg_none_of X G z_len, PySem.W.mg_none_of X G z_isinstance, PySem.W.mg_none_of X G z_int, PySem.W.mg_none_of X G z_bool, PySem.W.mg_none_of X G z_tuple, PySem.W.mg_none_of X G z_str, PySem.W.mg_none_of X G z_range, PySem.W.mg_none_of X G z_enumerate, PySem.W.mg_none_of X G z_list⟩
  have F := fun_mk (st := sLaw) l30 c30 k30
  have e := hfa.symm.trans (PySem.W.mg_of X G a30)
  cases e
  refine ⟨PySem.W.fnOf "law" "law" (defArgs sLaw) (defBody sLaw) (defScope sLaw) .none kV30 dc30 pm30 an30 cd30 ct30, cN, PN, tN, nPN, fun s v => .of_eq rfl, fun base _ _ TB => ?_⟩
  have cI := ok_integer (P := l.prog) (w := w) (base := base) D0 B
  have cT := ok_tupleOf (P := l.prog) (w := w) (base := base) D1 B
  have cA := ok_arrival (P := l.prog) (w := w) (base := base) D7 cT cI
  have cN' := ok_name (P := l.prog) (w := w) (base := base) DN TB B (PySem.W.mg_none_of X G z_all)
  have cJ := ok_isJob (P := l.prog) (w := w) (base := base) D6 cT cI cN' cA
  have cW := ok_waits (P := l.prog) (w := w) (base := base) D8 B
  have er := erc_jobs (P := l.prog) (w := w) (base := base) (PySem.W.mg_of X G aE0) oex0 np0 nit0
  have cE := ok_each (P := l.prog) (w := w) (base := base) D5 B er cJ
  have cK := ok_check (P := l.prog) (w := w) (base := base) D2 B er cE cW
  have cHa := ok_has (P := l.prog) (w := w) (base := base) D4
  have cCo := ok_count (P := l.prog) (w := w) (base := base) D3 B cHa
  have zmin := PySem.W.mg_none_of X G z_min
  have erL := erc_log (P := l.prog) (w := w) (base := base) (PySem.W.mg_of X G aE3) oex3 np3 nit3
  have cCL := ok_checkLog (P := l.prog) (w := w) (base := base) D11 B erL cT cI
  have cPr := ok_present (P := l.prog) (w := w) (base := base) D14 cCo
  have cCP := ok_checkPresent (P := l.prog) (w := w) (base := base) D12 B erL cPr
  have cPB := ok_presentBy (P := l.prog) (w := w) (base := base) D13 (PySem.W.mg_none_of X G z_sum) cPr
  have cJn := ok_joined (P := l.prog) (w := w) (base := base) D9 B
  have cPE := ok_presence (P := l.prog) (w := w) (base := base) D10 B (PySem.W.mg_none_of X G z_set) (PySem.W.mg_none_of X G z_sorted) (PySem.W.mg_none_of X G z_zip) cK cCL cCP cPB cJn
  have cM := ok_mix (P := l.prog) (w := w) (base := base) D15
  have cS := ok_store (P := l.prog) (w := w) (base := base) D16 B.len
  have cP := ok_pick (P := l.prog) (w := w) (base := base) D17 cM B.len
  have cNm := ok_names (P := l.prog) (w := w) (base := base) D18 B cP
  have cB := ok_before (P := l.prog) (w := w) (base := base) D19
  have cG := ok_jobs (P := l.prog) (w := w) (base := base) D20 B cP cNm cB
  have cL := ok_int (P := l.prog) (w := w) (base := base) D21 B
  have cKi := ok_kind (P := l.prog) (w := w) (base := base) (by decide) D22 B kn3
  have cPL := ok_presL (P := l.prog) (w := w) (base := base) D23 B
  have cLg := ok_log (P := l.prog) (w := w) (base := base) D24 B zmin cP cPL
  have cLF := ok_logFault (P := l.prog) (w := w) (base := base) D25 B cL
  have cBL := ok_badLog (P := l.prog) (w := w) (base := base) D26 B cP
  have cDu := ok_due (P := l.prog) (w := w) (base := base) D27 B cLF cPL
  have cR := ok_right (P := l.prog) (w := w) (base := base) D28 B kn3 cDu cPE cKi
  have cLr := ok_lr (P := l.prog) (w := w) (base := base) D29 B cLF cDu cPE
  exact ok_law F B cS cP cG cLg cBL cLF cR cLr cPE
end Vk
namespace Vk
open PySem PySem.Spec PyProof.Rows L2 GxR
theorem walkT {l : PySem.W.OpenLaw} {q : Program} {loose : List Str} {XP : (Str → Option Value) → Heap → Prop} {YP : World → Heap → Prop} {d dN : DefRec} {K : Params → PySem.W.Frag} (hn : l.most = some 63) (hdf : d.params.defaults = [])
    (hrec : (recsOf q).find? (fun e => e.name == ("is_name" : Str)) = some dN) (hY : ∀ (w : World) (h : Heap), YP w h → (K w.params).In h)
    (F : ∀ (w : World) (mg : Str → Option Value) (fa : Addr) (h : Heap), (K w.params).In h → h.Ns mainGlobals mg → mg d.name = some (.ref fa) → LawTab l w (K w.params) mg fa) :
    PySem.W.WalkO q loose XP YP l.row.toRowW d [] (fun f vs => PySem.call f vs) := by
  refine Att.attach_callB hn hdf fun w s₀ s₁ mg mb fa o pm cd doc a vs ns G Y ho hd hcd hmg hobj hints hlen hbits hg => ?_
  have KX := hY w _ Y
  obtain ⟨fd, c, P, ht, nl, hb, hF⟩ := F w mg fa _ KX G.T.g hmg
  obtain ⟨hC, hP⟩ := PySem.W.tab_of G.T KX hrec ht
  have one : ∀ {C : Addr × Addr → Prop}, C (c, P) → ∀ p ∈ [(c, P)], C p := fun h p hp => by
    rw [List.mem_singleton.mp hp]
    exact h
  exact LamX.law_callTs (k := 8) (cs := [(c, P)]) (sp := spLaw (K w.params) P) (CX := CX0) KX G.T.g G.T.b G.T.builtins G.T.nolimit hg (one hP) (one nl) (one hC) G.T.bmain hobj hints (Nat.le_trans hlen (by decide)) ⟨rfl, by decide, by decide⟩
    (fun base i n t => let z := t (c, P) (List.mem_singleton.mpr rfl); hF base i n ⟨z.code, z.bm, z.gP⟩) hb (fun H hH hS => ⟨a, ns, rfl, hS, hlen, ⟨#[], hH (c, P) (List.mem_singleton.mpr rfl), by simp [TriplesOk]⟩, fun _ => rfl⟩) (fun _ _ _ z => z)
end Vk
open PySem PySem.W PyProof.Rows in
set_option maxRecDepth 100000 in
set_option maxHeartbeats 0 in
theorem PySem.Challenge.cw_blindslots_k07_presence_holds : PySem.Challenge.rw_blindslots_k07_presence.Holds := by
  w_on; o_law; k_head; (case hw => w_witness2)
  k_fill
  refine Vk.walkT (l := PySem.Challenge.rw_blindslots_k07_presence) rfl rfl rfl (fun w h Y => PySem.W.kIn_of Y) ?F
  case F =>
    intro w mg fa h KX G hmg
    refine' Vk.all_mk KX G hmg ?a0 ?l0 ?c0 ?k0 ?a1 ?l1 ?c1 ?k1 ?a2 ?l2 ?c2 ?k2 ?a3 ?l3 ?c3 ?k3 ?a4 ?l4 ?c4 ?k4 ?a5 ?l5 ?c5 ?k5 ?a6 ?l6 ?c6 ?k6 ?a7 ?l7 ?c7 ?k7 ?a8 ?l8 ?c8 ?k8 ?a9 ?l9 ?c9 ?k9 ?a10 ?l10 ?c10 ?k10 ?a11 ?l11 ?c11 ?k11 ?a12 ?l12 ?c12 ?k12 ?a13 ?l13 ?c13 ?k13 ?a14 ?l14 ?c14 ?k14 ?a15 ?l15 ?c15 ?k15 ?a16 ?l16 ?c16 ?k16 ?a17 ?l17 ?c17 ?k17 ?a18 ?l18 ?c18 ?k18 ?a19 ?l19 ?c19 ?k19 ?a20 ?l20 ?c20 ?k20 ?a21 ?l21 ?c21 ?k21 ?a22 ?l22 ?c22 ?k22 ?a23 ?l23 ?c23 ?k23 ?a24 ?l24 ?c24 ?k24 ?a25 ?l25 ?c25 ?k25 ?a26 ?l26 ?c26 ?k26 ?a27 ?l27 ?c27 ?k27 ?a28 ?l28 ?c28 ?k28 ?a29 ?l29 ?c29 ?k29 ?a30 ?l30 ?c30 ?k30 ?z_len ?z_isinstance ?z_int ?z_bool ?z_tuple ?z_str ?z_range ?z_enumerate ?z_list ?z_all ?z_min ?z_set ?z_sorted ?z_zip ?z_sum ?aS ?iS ?hS ?tS ?eS ?spG ?tkG ?zVE ?aE0 ?iE0 ?tE0 ?aE1 ?iE1 ?tE1 ?aE2 ?iE2 ?tE2 ?aE3 ?iE3 ?tE3 ?aE4 ?iE4 ?tE4 ?aE5 ?iE5 ?tE5 ?aE6 ?iE6 ?tE6 ?aE7 ?iE7 ?tE7 ?aE8 ?iE8 ?tE8 ?aE9 ?iE9 ?tE9 ?aE10 ?iE10 ?tE10 ?aE11 ?iE11 ?tE11 ?x0_ ?sa0 ?ga0 ?gg0 ?np0 ?in0 ?ti0 ?li0 ?ci0 ?ki0 ?kc0 ?ec0 ?hc0 ?cc0 ?mc0 ?vc0 ?sc0 ?s0_1 ?n0_1 ?s0_2 ?n0_2 ?s0_3 ?n0_3 ?s0_4 ?n0_4 ?s0_5 ?n0_5 ?s0_6 ?n0_6 ?s0_7 ?n0_7 ?s0_8 ?n0_8 ?s0_9 ?n0_9 ?s0_10 ?n0_10 ?s0_11 ?n0_11 ?x3_ ?sa3 ?ga3 ?gg3 ?np3 ?in3 ?ti3 ?li3 ?ci3 ?ki3 ?kc3 ?ec3 ?hc3 ?cc3 ?mc3 ?vc3 ?sc3 ?s3_0 ?n3_0 ?s3_1 ?n3_1 ?s3_2 ?n3_2 ?s3_4 ?n3_4 ?s3_5 ?n3_5 ?s3_6 ?n3_6 ?s3_7 ?n3_7 ?s3_8 ?n3_8 ?s3_9 ?n3_9 ?s3_10 ?n3_10 ?s3_11 ?n3_11 ?aN ?lN ?cNf ?kNf ?hcN ?hvN ?nPN
    (case a0 => k_is)
    (case l0 => k_is)
    (case c0 => k_is)
    (case k0 => k_is)
    (case a1 => k_is)
    (case l1 => k_is)
    (case c1 => k_is)
    (case k1 => k_is)
    (case a2 => k_is)
    (case l2 => k_is)
    (case c2 => k_is)
    (case k2 => k_is)
    (case a3 => k_is)
    (case l3 => k_is)
    (case c3 => k_is)
    (case k3 => k_is)
    (case a4 => k_is)
    (case l4 => k_is)
    (case c4 => k_is)
    (case k4 => k_is)
    (case a5 => k_is)
    (case l5 => k_is)
    (case c5 => k_is)
    (case k5 => k_is)
    (case a6 => k_is)
    (case l6 => k_is)
    (case c6 => k_is)
    (case k6 => k_is)
    (case a7 => k_is)
    (case l7 => k_is)
    (case c7 => k_is)
    (case k7 => k_is)
    (case a8 => k_is)
    (case l8 => k_is)
    (case c8 => k_is)
    (case k8 => k_is)
    (case a9 => k_is)
    (case l9 => k_is)
    (case c9 => k_is)
    (case k9 => k_is)
    (case a10 => k_is)
    (case l10 => k_is)
    (case c10 => k_is)
    (case k10 => k_is)
    (case a11 => k_is)
    (case l11 => k_is)
    (case c11 => k_is)
    (case k11 => k_is)
    (case a12 => k_is)
    (case l12 => k_is)
    (case c12 => k_is)
    (case k12 => k_is)
    (case a13 => k_is)
    (case l13 => k_is)
    (case c13 => k_is)
    (case k13 => k_is)
    (case a14 => k_is)
    (case l14 => k_is)
    (case c14 => k_is)
    (case k14 => k_is)
    (case a15 => k_is)
    (case l15 => k_is)
    (case c15 => k_is)
    (case k15 => k_is)
    (case a16 => k_is)
    (case l16 => k_is)
    (case c16 => k_is)
    (case k16 => k_is)
    (case a17 => k_is)
    (case l17 => k_is)
    (case c17 => k_is)
    (case k17 => k_is)
    (case a18 => k_is)
    (case l18 => k_is)
    (case c18 => k_is)
    (case k18 => k_is)
    (case a19 => k_is)
    (case l19 => k_is)
    (case c19 => k_is)
    (case k19 => k_is)
    (case a20 => k_is)
    (case l20 => k_is)
    (case c20 => k_is)
    (case k20 => k_is)
    (case a21 => k_is)
    (case l21 => k_is)
    (case c21 => k_is)
    (case k21 => k_is)
    (case a22 => k_is)
    (case l22 => k_is)
    (case c22 => k_is)
    (case k22 => k_is)
    (case a23 => k_is)
    (case l23 => k_is)
    (case c23 => k_is)
    (case k23 => k_is)
    (case a24 => k_is)
    (case l24 => k_is)
    (case c24 => k_is)
    (case k24 => k_is)
    (case a25 => k_is)
    (case l25 => k_is)
    (case c25 => k_is)
    (case k25 => k_is)
    (case a26 => k_is)
    (case l26 => k_is)
    (case c26 => k_is)
    (case k26 => k_is)
    (case a27 => k_is)
    (case l27 => k_is)
    (case c27 => k_is)
    (case k27 => k_is)
    (case a28 => k_is)
    (case l28 => k_is)
    (case c28 => k_is)
    (case k28 => k_is)
    (case a29 => k_is)
    (case l29 => k_is)
    (case c29 => k_is)
    (case k29 => k_is)
    (case a30 => k_is)
    (case l30 => k_is)
    (case c30 => k_is)
    (case k30 => k_is)
    (case z_len => k_is)
    (case z_isinstance => k_is)
    (case z_int => k_is)
    (case z_bool => k_is)
    (case z_tuple => k_is)
    (case z_str => k_is)
    (case z_range => k_is)
    (case z_enumerate => k_is)
    (case z_list => k_is)
    (case z_all => k_is)
    (case z_min => k_is)
    (case z_set => k_is)
    (case z_sorted => k_is)
    (case z_zip => k_is)
    (case z_sum => k_is)
    (case aS => k_is)
    (case iS => k_is)
    (case hS => k_is)
    (case tS => k_is)
    (case eS => k_is)
    (case spG => k_is)
    (case tkG => k_is)
    (case zVE => k_is)
    (case aE0 => k_is)
    (case iE0 => k_is)
    (case tE0 => k_is)
    (case aE1 => k_is)
    (case iE1 => k_is)
    (case tE1 => k_is)
    (case aE2 => k_is)
    (case iE2 => k_is)
    (case tE2 => k_is)
    (case aE3 => k_is)
    (case iE3 => k_is)
    (case tE3 => k_is)
    (case aE4 => k_is)
    (case iE4 => k_is)
    (case tE4 => k_is)
    (case aE5 => k_is)
    (case iE5 => k_is)
    (case tE5 => k_is)
    (case aE6 => k_is)
    (case iE6 => k_is)
    (case tE6 => k_is)
    (case aE7 => k_is)
    (case iE7 => k_is)
    (case tE7 => k_is)
    (case aE8 => k_is)
    (case iE8 => k_is)
    (case tE8 => k_is)
    (case aE9 => k_is)
    (case iE9 => k_is)
    (case tE9 => k_is)
    (case aE10 => k_is)
    (case iE10 => k_is)
    (case tE10 => k_is)
    (case aE11 => k_is)
    (case iE11 => k_is)
    (case tE11 => k_is)
    (case x0_ => k_is)
    (case sa0 => k_is)
    (case ga0 => k_is)
    (case gg0 => k_is)
    (case np0 => k_is)
    (case in0 => k_is)
    (case ti0 => k_is)
    (case li0 => k_is)
    (case ci0 => k_is)
    (case ki0 => k_is)
    (case kc0 => k_is)
    (case ec0 => k_is)
    (case hc0 => k_is)
    (case cc0 => k_is)
    (case mc0 => k_is)
    (case vc0 => k_is)
    (case sc0 => k_is)
    (case s0_1 => k_is)
    (case n0_1 => rfl)
    (case s0_2 => k_is)
    (case n0_2 => rfl)
    (case s0_3 => k_is)
    (case n0_3 => rfl)
    (case s0_4 => k_is)
    (case n0_4 => rfl)
    (case s0_5 => k_is)
    (case n0_5 => rfl)
    (case s0_6 => k_is)
    (case n0_6 => rfl)
    (case s0_7 => k_is)
    (case n0_7 => rfl)
    (case s0_8 => k_is)
    (case n0_8 => rfl)
    (case s0_9 => k_is)
    (case n0_9 => rfl)
    (case s0_10 => k_is)
    (case n0_10 => rfl)
    (case s0_11 => k_is)
    (case n0_11 => rfl)
    (case x3_ => k_is)
    (case sa3 => k_is)
    (case ga3 => k_is)
    (case gg3 => k_is)
    (case np3 => k_is)
    (case in3 => k_is)
    (case ti3 => k_is)
    (case li3 => k_is)
    (case ci3 => k_is)
    (case ki3 => k_is)
    (case kc3 => k_is)
    (case ec3 => k_is)
    (case hc3 => k_is)
    (case cc3 => k_is)
    (case mc3 => k_is)
    (case vc3 => k_is)
    (case sc3 => k_is)
    (case s3_0 => k_is)
    (case n3_0 => rfl)
    (case s3_1 => k_is)
    (case n3_1 => rfl)
    (case s3_2 => k_is)
    (case n3_2 => rfl)
    (case s3_4 => k_is)
    (case n3_4 => rfl)
    (case s3_5 => k_is)
    (case n3_5 => rfl)
    (case s3_6 => k_is)
    (case n3_6 => rfl)
    (case s3_7 => k_is)
    (case n3_7 => rfl)
    (case s3_8 => k_is)
    (case n3_8 => rfl)
    (case s3_9 => k_is)
    (case n3_9 => rfl)
    (case s3_10 => k_is)
    (case n3_10 => rfl)
    (case s3_11 => k_is)
    (case n3_11 => rfl)
    (case aN => k_is)
    (case lN => k_is)
    (case cNf => k_is)
    (case kNf => k_is)
    (case hcN => k_is)
    (case hvN => rfl)
    (case nPN => first | k_is | kernel_rfl)
